import PyProof.Rows.All
import Wide.All
import OpenK.AllK
import Wide.FinOn
import HandS.ForMost
import HandS.Exc
import HandS.WordsExc
import HandS.TupAny
import HandS.Deep
import HandS.IsInst
import HandS.Walk
import HandS.Zip
import HandS.SetTxt0
import HandS.SetFor
import HandS.Strs
import HandS.List
import HandS.MakeKwOnly
import HandS.Property
import HandS.MakeKw
import HandS.WideBits
import HandS.Iter
import HandS.OwnEq
import HandS.ClsMeth
import HandS.Defaults
import PyProof.InstNe
import HandS.Star
import KE.GoesEnum
import HandS.MethStar
import HandS.Style
import HandS.RaiseMore
import HandS.Codes
import PyProof.P3Eq
import KE.RegKIsAll
import PySem.Challenge.RW_unseenrest_k24_whole_texts_read_back
set_option Elab.async false
set_option linter.all false
set_option maxRecDepth 100000
set_option maxHeartbeats 4000000
namespace Dn
open PySem PySem.Spec PyProof.Rows L2

/-- a value as plain data; objects by their class and fields; opq: any other value; hnd: what a handle of the world means -/
inductive D where
  | non | bl (b : Bool) | int (i : Int) | str (s : Str) | lst (ds : List D) | tup (ds : List D) | ftp (ds : List D)
  | obj (C : Addr) (ns : List Str) (ds : List D) | opq (v : V) | hnd (n : Nat)
  deriving Inhabited

def WrT (K : PySem.W.Frag) (a : Addr) (xs : List V) : Prop :=
  ∃ (o : Obj) (its : Array Value) (n : Nat), K.lookup a = some o ∧ o.cls = .type "tuple" ∧ o.data = .seq its n ∧ its.size ≤ sizeLine ∧ Vals xs its.toList

/-- the world: M what may change, N what no plain data leans on, h what the handles mean -/
structure Wd where
  M : Addr → Prop
  N : Addr → Prop
  h : Nat → Option Addr
  sub : ∀ a, M a → N a
mutual
inductive Rp (K : PySem.W.Frag) (W : Wd) (H : Hp) : V → D → Prop
  | non : Rp K W H .non .non
  | bl (b : Bool) : Rp K W H (.bl b) (.bl b)
  | int (i : Int) : Rp K W H (.int i) (.int i)
  | str (x : Str) : Rp K W H (.str x) (.str x)
  | lst {a : Addr} {xs : List V} {ds : List D} : ¬ W.N a → H a = some (.lst xs) → Rps K W H xs ds → Rp K W H (.ref a) (.lst ds)
  | tup {a : Addr} {xs : List V} {ds : List D} : ((¬ W.N a ∧ Rd H a (.tup xs)) ∨ WrT K a xs) → Rps K W H xs ds → Rp K W H (.ref a) (.tup ds)
  | ftp {a : Addr} {o : Obj} {xs : List V} {ds : List D} : ¬ W.N a → H a = some (.frz o (.tup xs)) → o.dict = none → Rps K W H xs ds → Rp K W H (.ref a) (.ftp ds)
  | obj {a C dx : Addr} {fs : List (Str × V)} {ns : List Str} {ds : List D} : ¬ W.N a → H a = some (.ins C dx fs) → fs.map (·.1) = ns → Rps K W H (fs.map (·.2)) ds → Rp K W H (.ref a) (.obj C ns ds)
  | opq (v : V) : Rp K W H v (.opq v)
  | hnd {a : Addr} (n : Nat) : W.h n = some a → Rp K W H (.ref a) (.hnd n)
inductive Rps (K : PySem.W.Frag) (W : Wd) (H : Hp) : List V → List D → Prop
  | nil : Rps K W H [] []
  | cons {v : V} {vs : List V} {d : D} {ds : List D} : Rp K W H v d → Rps K W H vs ds → Rps K W H (v :: vs) (d :: ds)
end
theorem same_new {H : Hp} {p : Addr} {o : HO} (h : H p = none) : Same H (upd H p o) := fun a u e => by
  rw [upd_ne (ne_of_none e h)]
  exact e
/-- a later world -/
structure Le (W : Wd) (H : Hp) (W' : Wd) (H' : Hp) : Prop where
  ext : ∀ a o, ¬ W.M a → H a = some o → H' a = some o
  newM : ∀ a, W'.M a → W.M a ∨ H a = none
  newN : ∀ a, W'.N a → W.N a ∨ H a = none
  keep : ∀ a, W.N a → W'.N a
  hh : ∀ n a, W.h n = some a → W'.h n = some a
  newH : ∀ n a, W'.h n = some a → W.h n = some a ∨ H a = none
  stay : ∀ a, H a ≠ none → H' a ≠ none
/-- enough for plain data -/
structure Lw (W : Wd) (H : Hp) (W' : Wd) (H' : Hp) : Prop where
  ext : ∀ a o, ¬ W.N a → H a = some o → H' a = some o
  newN : ∀ a, W'.N a → W.N a ∨ H a = none
  hh : ∀ n a, W.h n = some a → W'.h n = some a
theorem Le.w {W W' : Wd} {H H' : Hp} (e : Le W H W' H') : Lw W H W' H' := ⟨fun a o n h => e.ext a o (fun z => n (W.sub a z)) h, e.newN, e.hh⟩
theorem lw_upd {W : Wd} {H : Hp} {p : Addr} {o : HO} (n : W.N p) : Lw W H W (upd H p o) := ⟨fun a u z h => by rw [upd_ne (fun e => z (by rw [e]; exact n))]; exact h, fun _ h => .inl h, fun _ _ h => h⟩
theorem Le.refl (W : Wd) (H : Hp) : Le W H W H := ⟨fun _ _ _ h => h, fun _ h => .inl h, fun _ h => .inl h, fun _ h => h, fun _ _ h => h, fun _ _ h => .inl h, fun _ h => h⟩
theorem Le.of {W : Wd} {H H' : Hp} (h : Same H H') : Le W H W H' := ⟨fun a o _ e => h a o e, fun _ h => .inl h, fun _ h => .inl h, fun _ h => h, fun _ _ h => h, fun _ _ h => .inl h, fun a n z => by
  cases q : H a with
  | none => exact n q
  | some o => rw [h a o q] at z; cases z⟩

section
variable {K : PySem.W.Frag} {W W' : Wd} {H H' : Hp}
mutual
theorem Rp.lw (e : Lw W H W' H') : ∀ (d : D) (v : V), Rp K W H v d → Rp K W' H' v d
  | .non, _, h => by cases h; exact .non
  | .bl b, _, h => by cases h; exact .bl b
  | .int i, _, h => by cases h; exact .int i
  | .str x, _, h => by cases h; exact .str x
  | .opq v, _, h => by cases h; exact .opq v
  | .hnd n, _, h => by
    cases h with
    | hnd n q => exact .hnd n (e.hh _ _ q)
  | .lst ds, _, h => by
    cases h with
    | lst n s r =>
      refine .lst (fun z => ?_) (e.ext _ _ n s) (Rps.lw e ds _ r)
      rcases e.newN _ z with q | q
      · exact n q
      · rw [s] at q; cases q
  | .tup ds, _, h => by
    cases h with
    | tup s r =>
      refine .tup ?_ (Rps.lw e ds _ r)
      rcases s with ⟨n, s⟩ | s
      · refine .inl ⟨fun z => ?_, ?_⟩
        · rcases e.newN _ z with q | q
          · exact n q
          · rcases s with s | ⟨o, s⟩ <;> rw [s] at q <;> cases q
        · rcases s with s | ⟨o, s⟩
          · exact .inl (e.ext _ _ n s)
          · exact .inr ⟨o, e.ext _ _ n s⟩
      · exact .inr s
  | .ftp ds, _, h => by
    cases h with
    | ftp n s hd r =>
      refine .ftp (fun z => ?_) (e.ext _ _ n s) hd (Rps.lw e ds _ r)
      rcases e.newN _ z with q | q
      · exact n q
      · rw [s] at q; cases q
  | .obj C ns ds, _, h => by
    cases h with
    | obj n s z r =>
      refine .obj (fun z => ?_) (e.ext _ _ n s) z (Rps.lw e ds _ r)
      rcases e.newN _ z with q | q
      · exact n q
      · rw [s] at q; cases q
theorem Rps.lw (e : Lw W H W' H') : ∀ (ds : List D) (vs : List V), Rps K W H vs ds → Rps K W' H' vs ds
  | [], _, h => by cases h; exact .nil
  | d :: ds, _, h => by
    cases h with
    | cons h1 h2 => exact .cons (Rp.lw e d _ h1) (Rps.lw e ds _ h2)
end
theorem Rp.to {v : V} {d : D} (h : Rp K W H v d) (e : Le W H W' H') : Rp K W' H' v d := Rp.lw e.w d v h
theorem Rp.tow {v : V} {d : D} (h : Rp K W H v d) (e : Lw W H W' H') : Rp K W' H' v d := Rp.lw e d v h
theorem Rps.to {v : List V} {d : List D} (h : Rps K W H v d) (e : Le W H W' H') : Rps K W' H' v d := Rps.lw e.w d v h
theorem Rps.tow {v : List V} {d : List D} (h : Rps K W H v d) (e : Lw W H W' H') : Rps K W' H' v d := Rps.lw e d v h
end
theorem Le.trans {W W1 W2 : Wd} {H H1 H2 : Hp} (a : Le W H W1 H1) (b : Le W1 H1 W2 H2) : Le W H W2 H2 := by
  have key : ∀ x, H1 x = none → H x = none := fun x h => Classical.byContradiction fun z => a.stay x z h
  refine ⟨fun x o n h => ?_, fun x h => ?_, fun x h => ?_, fun x h => b.keep x (a.keep x h), fun n x h => b.hh n x (a.hh n x h), fun n x h => ?_, fun x h => b.stay x (a.stay x h)⟩
  · refine b.ext x o (fun z => ?_) (a.ext x o n h)
    rcases a.newM x z with q | q
    · exact n q
    · rw [h] at q; cases q
  · rcases b.newM x h with q | q
    · exact a.newM x q
    · exact .inr (key x q)
  · rcases b.newN x h with q | q
    · exact a.newN x q
    · exact .inr (key x q)
  · rcases b.newH n x h with q | q
    · exact a.newH n x q
    · exact .inr (key x q)
section
variable {K : PySem.W.Frag} {W : Wd} {H H' : Hp}
theorem Rps.length : ∀ {vs : List V} {ds : List D}, Rps K W H vs ds → vs.length = ds.length
  | _, _, .nil => rfl
  | _, _, .cons _ t => congrArg (· + 1) (Rps.length t)
theorem Rps.get : ∀ {vs : List V} {ds : List D} {i : Nat} {d : D}, Rps K W H vs ds → ds[i]? = some d → ∃ v, vs[i]? = some v ∧ Rp K W H v d
  | _, _, _, _, .nil, h => by simp at h
  | _, _, 0, _, .cons a t, h => by simp at h; subst h; exact ⟨_, rfl, a⟩
  | _, _, i + 1, d, .cons a t, h => by
    obtain ⟨v, h1, h2⟩ := Rps.get (i := i) (d := d) t (by simpa using h)
    exact ⟨v, by simpa using h1, h2⟩
theorem Rps.get' : ∀ {vs : List V} {ds : List D} {i : Nat} {v : V}, Rps K W H vs ds → vs[i]? = some v → ∃ d, ds[i]? = some d ∧ Rp K W H v d
  | _, _, _, _, .nil, h => by simp at h
  | _, _, 0, _, .cons a t, h => by simp at h; subst h; exact ⟨_, rfl, a⟩
  | _, _, i + 1, d, .cons a t, h => by
    obtain ⟨v, h1, h2⟩ := Rps.get' (i := i) (v := d) t (by simpa using h)
    exact ⟨v, by simpa using h1, h2⟩
theorem Rps.append : ∀ {vs ws : List V} {ds es : List D}, Rps K W H vs ds → Rps K W H ws es → Rps K W H (vs ++ ws) (ds ++ es)
  | _, _, _, _, .nil, h => h
  | _, _, _, _, .cons a t, h => .cons a (Rps.append t h)
theorem Rps.take : ∀ {vs : List V} {ds : List D} (n : Nat), Rps K W H vs ds → Rps K W H (vs.take n) (ds.take n)
  | _, _, 0, _ => .nil
  | _, _, n + 1, .nil => .nil
  | _, _, n + 1, .cons a t => .cons a (Rps.take n t)
theorem Rps.drop : ∀ {vs : List V} {ds : List D} (n : Nat), Rps K W H vs ds → Rps K W H (vs.drop n) (ds.drop n)
  | _, _, 0, h => h
  | _, _, n + 1, .nil => .nil
  | _, _, n + 1, .cons a t => Rps.drop n t
theorem Rps.ints : ∀ {vs : List V} {ns : List Int}, Rps K W H vs (ns.map D.int) → vs = ns.map V.int
  | _, [], h => by cases h; rfl
  | _, n :: ns, h => by
    cases h with
    | cons h1 h2 =>
      cases h1
      rw [Rps.ints h2]
      rfl
theorem Rps.strs : ∀ {vs : List V} {ns : List Str}, Rps K W H vs (ns.map D.str) → vs = ns.map V.str
  | _, [], h => by cases h; rfl
  | _, n :: ns, h => by
    cases h with
    | cons h1 h2 =>
      cases h1
      rw [Rps.strs h2]
      rfl
theorem Rps.bls : ∀ {vs : List V} {ns : List Bool}, Rps K W H vs (ns.map D.bl) → vs = ns.map V.bl
  | _, [], h => by cases h; rfl
  | _, n :: ns, h => by
    cases h with
    | cons h1 h2 =>
      cases h1
      rw [Rps.bls h2]
      rfl
theorem Rps.of_ints : ∀ (ns : List Int), Rps K W H (ns.map V.int) (ns.map D.int)
  | [] => .nil
  | n :: ns => .cons (.int n) (Rps.of_ints ns)
theorem Rps.of_strs : ∀ (ns : List Str), Rps K W H (ns.map V.str) (ns.map D.str)
  | [] => .nil
  | n :: ns => .cons (.str n) (Rps.of_strs ns)
theorem sq_l {a : Addr} {xs : List V} (s : H a = some (.lst xs)) : SqL K H a xs := .inl (.inl s)
theorem sq_t {a : Addr} {xs : List V} (s : (¬ W.N a ∧ Rd H a (.tup xs)) ∨ WrT K a xs) : SqT K H a xs := by
  rcases s with ⟨_, s⟩ | s
  · exact .inl s
  · exact .inr s
end

/-! ### the state: what a law draws from, and the mutable things -/
structure BagSt where
  cells : List Int
  at_ : Nat
  rest : Int
  seed : Int
  cnt : Int
inductive Cell where
  | lst (ds : List D) | ins (C : Addr) (ns : List Str) (ds : List D)
structure Sta where
  bag : Option BagSt
  scr : Option (Addr × List Int)
  own : List (Nat × Cell)
  next : Nat
/-- handle 0: what is drawn from -/
def BagAt (W : Wd) (H : Hp) (b : Addr) (s : BagSt) : Prop :=
  ∃ l, ¬ W.N l ∧ H l = some (.lst (s.cells.map V.int)) ∧ H b = some (.lst [.ref l, .int s.at_, .int s.rest, .int s.seed, .int s.cnt])
def CellAt (K : PySem.W.Frag) (W : Wd) (H : Hp) (p : Addr) : Cell → Prop
  | .lst ds => ∃ vs, H p = some (.lst vs) ∧ Rps K W H vs ds
  | .ins C ns ds => ∃ dx fs, H p = some (.ins C dx fs) ∧ fs.map (·.1) = ns ∧ Rps K W H (fs.map (·.2)) ds
/-- the script: as it was handed in, or an object of the written part -/
def WrL (K : PySem.W.Frag) (a : Addr) (xs : List V) : Prop :=
  ∃ (o : Obj) (its : Array Value) (n : Nat), K.lookup a = some o ∧ o.cls = .type "list" ∧ o.dict = none ∧ o.data = .seq its n ∧ its.size ≤ sizeLine ∧ Vals xs its.toList
def ScrAt (K : PySem.W.Frag) (W : Wd) (H : Hp) (a : Addr) (ns : List Int) : Prop := (¬ W.N a ∧ Rd H a (.lst (ns.map V.int))) ∨ WrL K a (ns.map V.int)
structure Holds (K : PySem.W.Frag) (W : Wd) (H : Hp) (st : Sta) : Prop where
  there : ∀ a, W.N a → H a ≠ none
  inj : ∀ n m a, W.h n = some a → W.h m = some a → n = m
  hdl : ∀ n a, W.h n = some a → H a ≠ none
  dom : st.bag = none → W.h 0 = none
  bag : ∀ s, st.bag = some s → ∃ b, W.h 0 = some b ∧ W.M b ∧ BagAt W H b s
  scr : ∀ a ns, st.scr = some (a, ns) → ScrAt K W H a ns
  own : ∀ n c, (n, c) ∈ st.own → n ≠ 0 ∧ ∃ p, W.h n = some p ∧ W.M p ∧ CellAt K W H p c
  bd : ∀ n a, W.h n = some a → n ≤ st.next
section
variable {K : PySem.W.Frag} {W W' : Wd} {H H' : Hp} {st : Sta} {p : Addr}
theorem CellAt.tow {c : Cell} (h : CellAt K W H p c) (e : Lw W H W' H') (hp : H' p = H p) : CellAt K W' H' p c := by
  cases c with
  | lst ds =>
    obtain ⟨vs, h1, h2⟩ := h
    exact ⟨vs, hp.trans h1, h2.tow e⟩
  | ins C ns ds =>
    obtain ⟨dx, fs, h1, h2, h3⟩ := h
    exact ⟨dx, fs, hp.trans h1, h2, h3.tow e⟩
theorem CellAt.there {c : Cell} (h : CellAt K W H p c) : ∃ o, H p = some o := by
  cases c with
  | lst ds => obtain ⟨vs, h1, _⟩ := h; exact ⟨_, h1⟩
  | ins C ns ds => obtain ⟨dx, fs, h1, _⟩ := h; exact ⟨_, h1⟩
/-- from world to world: what the state's own things need -/
theorem Holds.move (I : Holds K W H st) (e : Lw W H W' H') (hM : ∀ a, W.M a → W'.M a) (th : ∀ a, W'.N a → H' a ≠ none) (hW : W'.h = W.h) (hn : ∀ a, H a ≠ none → H' a ≠ none) (hm : ∀ a o, W.M a → H a = some o → H' a = some o) (hs : ∀ a, ¬ W.N a → W'.N a → H a = none) (hq : ∀ a xs, ¬ W.N a → Rd H a xs → Rd H' a xs ∧ ¬ W'.N a) : Holds K W' H' st := by
  refine ⟨th, by rw [hW]; exact I.inj, by rw [hW]; exact fun n a h => hn a (I.hdl n a h), by rw [hW]; exact I.dom, fun s h => ?_, fun a ns h => ?_, fun n c h => ?_, by rw [hW]; exact I.bd⟩
  · obtain ⟨b, h1, h2, l, h3, h4, h5⟩ := I.bag s h
    refine ⟨b, e.hh _ _ h1, hM _ h2, l, fun z => ?_, e.ext _ _ h3 h4, hm _ _ h2 h5⟩
    rw [hs l h3 z] at h4; cases h4
  · rcases I.scr a ns h with ⟨h2, h3⟩ | h3
    · obtain ⟨q1, q2⟩ := hq a _ h2 h3
      exact .inl ⟨q2, q1⟩
    · exact .inr h3
  · obtain ⟨h0, p, h1, h2, h3⟩ := I.own n c h
    obtain ⟨o, ho⟩ := h3.there
    exact ⟨h0, p, e.hh _ _ h1, hM _ h2, h3.tow e ((hm _ _ h2 ho).trans ho.symm)⟩
theorem rd_same {a : Addr} {u : HO} (e : Same H H') (h : Rd H a u) : Rd H' a u := by
  rcases h with h | ⟨o, h⟩
  · exact .inl (e _ _ h)
  · exact .inr ⟨o, e _ _ h⟩
theorem rd_some {a : Addr} {u : HO} (h : Rd H a u) : H a ≠ none := by
  rcases h with h | ⟨o, h⟩ <;> rw [h] <;> exact fun z => nomatch z
theorem ScrAt.sq {a : Addr} {ns : List Int} (h : ScrAt K W H a ns) : SqL K H a (ns.map V.int) := by
  rcases h with ⟨_, h⟩ | h
  · exact .inl h
  · exact .inr h
theorem same_some (e : Same H H') (a : Addr) (h : H a ≠ none) : H' a ≠ none := fun z => by
  cases q : H a with
  | none => exact h q
  | some o => rw [e a o q] at z; cases z
theorem Holds.same (I : Holds K W H st) (e : Same H H') : Holds K W H' st := by
  refine I.move (Le.of e).w (fun _ h => h) (fun a n z => ?_) rfl (same_some e) (fun a o _ h => e a o h) (fun a n z => (n z).elim) fun a xs n h => ⟨rd_same e h, n⟩
  cases q : H a with
  | none => exact I.there a n q
  | some o => rw [e a o q] at z; cases z
theorem not_n (I : Holds K W H st) (n : H p = none) : ¬ W.N p := fun m => I.there p m n
theorem rp_lst {vs : List V} {ds : List D} (I : Holds K W H st) (n : H p = none) (r : Rps K W H vs ds) : Rp K W (upd H p (.lst vs)) (.ref p) (.lst ds) :=
  .lst (not_n I n) upd_same (r.to (Le.of (same_new n)))
theorem rp_tup {vs : List V} {ds : List D} (I : Holds K W H st) (n : H p = none) (r : Rps K W H vs ds) : Rp K W (upd H p (.tup vs)) (.ref p) (.tup ds) :=
  .tup (.inl ⟨not_n I n, .inl upd_same⟩) (r.to (Le.of (same_new n)))
/-- a new thing that no data leans on -/
def Wd.addN (W : Wd) (p : Addr) : Wd := ⟨W.M, fun a => W.N a ∨ a = p, W.h, fun a h => .inl (W.sub a h)⟩
theorem le_addN {o : HO} (n : H p = none) : Le W H (W.addN p) (upd H p o) := by
  refine ⟨fun a u _ e => same_new n a u e, fun a h => .inl h, fun a h => ?_, fun a h => .inl h, fun _ _ h => h, fun _ _ h => .inl h, same_some (same_new n)⟩
  rcases h with h | rfl
  · exact .inl h
  · exact .inr n
end
section
variable {K : PySem.W.Frag} {W : Wd} {H : Hp} {st : Sta} {p : Addr}
theorem Holds.addN {o : HO} (I : Holds K W H st) (n : H p = none) : Holds K (W.addN p) (upd H p o) st := by
  have e : Same H (upd H p o) := same_new n
  have l : Lw W H (W.addN p) (upd H p o) := (le_addN n).w
  refine ⟨fun a h z => ?_, I.inj, fun m a h => same_some e a (I.hdl m a h), I.dom, fun s h => ?_, fun a ns h => ?_, fun m c h => ?_, I.bd⟩
  · by_cases hp : a = p
    · subst hp; rw [upd_same] at z; cases z
    · rw [upd_ne hp] at z
      rcases h with h | h
      · exact I.there a h z
      · exact hp h
  · obtain ⟨b, h1, h2, l, h3, h4, h5⟩ := I.bag s h
    refine ⟨b, h1, h2, l, fun z => ?_, e _ _ h4, e _ _ h5⟩
    rcases z with z | rfl
    · exact h3 z
    · rw [n] at h4; cases h4
  · rcases I.scr a ns h with ⟨h2, h3⟩ | h3
    · refine .inl ⟨fun z => ?_, rd_same e h3⟩
      rcases z with z | rfl
      · exact h2 z
      · exact rd_some h3 n
    · exact .inr h3
  · obtain ⟨h0, q, h1, h2, h3⟩ := I.own m c h
    obtain ⟨u, hu⟩ := h3.there
    exact ⟨h0, q, h1, h2, h3.tow l ((e _ _ hu).trans hu.symm)⟩
/-- a thing that no data leans on, and that is none of the state's, changes -/
theorem Holds.off {o : HO} (I : Holds K W H st) (n : W.N p) (m : ¬ W.M p) : Holds K W (upd H p o) st := by
  have some_upd : ∀ a, H a ≠ none → upd H p o a ≠ none := fun a h z => by
    by_cases hp : a = p
    · subst hp; rw [upd_same] at z; cases z
    · rw [upd_ne hp] at z
      exact h z
  refine I.move (lw_upd n) (fun _ h => h) (fun a h z => ?_) rfl some_upd (fun a u ha h => ?_) (fun a h z => (h z).elim) fun a xs h q => ⟨?_, h⟩
  · by_cases hp : a = p
    · subst hp; rw [upd_same] at z; cases z
    · rw [upd_ne hp] at z
      exact I.there a h z
  · rw [upd_ne (fun e => m (by rw [← e]; exact ha))]; exact h
  · have hp : a ≠ p := fun e => h (by rw [e]; exact n)
    rcases q with q | ⟨u, q⟩
    · exact .inl (by rw [upd_ne hp]; exact q)
    · exact .inr ⟨u, by rw [upd_ne hp]; exact q⟩
/-- the thing at p is plain data again -/
def Wd.delN (W : Wd) (p : Addr) (m : ¬ W.M p) : Wd := ⟨W.M, fun a => W.N a ∧ a ≠ p, W.h, fun a h => ⟨W.sub a h, fun e => m (by rw [← e]; exact h)⟩⟩
theorem lw_delN {m : ¬ W.M p} : Lw W H (W.delN p m) H := ⟨fun _ _ _ h => h, fun _ h => .inl h.1, fun _ _ h => h⟩
/-- a thing that came and became plain data -/
theorem Le.delN {W0 : Wd} {H0 : Hp} {m : ¬ W.M p} (e : Le W0 H0 W H) (n : ¬ W0.N p) : Le W0 H0 (W.delN p m) H := ⟨e.ext, e.newM, fun a h => e.newN a h.1, fun a h => ⟨e.keep a h, fun z => n (by rw [← z]; exact h)⟩, e.hh, e.newH, e.stay⟩
theorem Holds.delN {m : ¬ W.M p} (I : Holds K W H st) : Holds K (W.delN p m) H st :=
  I.move lw_delN (fun _ h => h) (fun a h => I.there a h.1) rfl (fun _ h => h) (fun _ _ _ h => h) (fun a n z => (n z.1).elim) fun a xs n h => ⟨h, fun z => n z.1⟩
end

/-! ### denotations -/
abbrev Exc := Addr × List Str × List D
abbrev Mo (α : Type) := Option (Except Exc α × Sta)
def bd {α β : Type} (m : Mo α) (k : α → Sta → Mo β) : Mo β :=
  match m with
  | none => none
  | some (.error x, st) => some (.error x, st)
  | some (.ok a, st) => k a st
abbrev Dl := List (Option D)
abbrev Den (α : Type) := Dl → Sta → Mo α
abbrev EDen := Den D
abbrev TDen := Den Bool
abbrev ADen := Den (List D)
inductive Out where
  | nx (Δ : Dl) | rt (d : D) | bk (Δ : Dl) | ct (Δ : Dl)
abbrev SDen := Den Out

def LocD (K : PySem.W.Frag) (W : Wd) (H : Hp) (σ : L2.St) (Δ : Dl) : Prop := σ.length = Δ.length ∧ ∀ (i : Nat) (d : D), Δ[i]? = some (some d) → ∃ v, σ[i]? = some (some v) ∧ Rp K W H v d
def ExcAt (K : PySem.W.Frag) (W : Wd) (H : Hp) (dx : Addr) (x : Exc) : Prop := ¬ W.N dx ∧ ∃ fs : List (Str × V), H dx = some (.xd fs) ∧ fs.map (·.1) = x.2.1 ∧ Rps K W H (fs.map (·.2)) x.2.2
/-- what is wanted behind -/
def Wnt {α : Type} (K : PySem.W.Frag) (W : Wd) (E : XK) (H : Hp) (Q : α → Sta → Wd → Hp → Prop) : Except Exc α → Sta → Prop
  | .ok a, st => ∀ W' H', Le W H W' H' → Holds K W' H' st → Q a st W' H'
  | .error x, st => ∀ W' dx H', Le W H W' H' → Holds K W' H' st → ExcAt K W' H' dx x → E (.ref x.1) (some dx) H'
/-- a piece that gives an α, its reading in the world W and the state st -/
def tGw {α : Type} (K : PySem.W.Frag) (W : Wd) (st : Sta) (E : XK) (τ : Den α) (σ : L2.St) (H : Hp) (Q : α → Sta → Wd → Hp → Prop) : Prop :=
  ∃ Δ r st', LocD K W H σ Δ ∧ Holds K W H st ∧ τ Δ st = some (r, st') ∧ Wnt K W E H Q r st'
def tG {α : Type} (K : PySem.W.Frag) (E : XK) (τ : Den α) (σ : L2.St) (H : Hp) (Q : α → Sta → Wd → Hp → Prop) : Prop := ∃ W st, tGw K W st E τ σ H Q
def tD (K : PySem.W.Frag) (E : XK) (τ : EDen) : TE := fun σ H Q => tG K E τ σ H fun d _ W' H' => ∀ v, Rp K W' H' v d → Q v H'
def tTD (K : PySem.W.Frag) (E : XK) (τ : TDen) : TT := fun σ H Q => tG K E τ σ H fun b _ _ H' => Q b H'
def tAD (K : PySem.W.Frag) (E : XK) (τ : ADen) : TA := fun σ H Q => tG K E τ σ H fun ds _ W' H' => ∀ vs, Rps K W' H' vs ds → Q vs H'
def tSD (K : PySem.W.Frag) (E : XK) (τ : SDen) : TS := fun D σ H => tG K E τ σ H fun o _ W' H' => match o with
  | .nx Δ' => ∀ σ', LocD K W' H' σ' Δ' → D.nx σ' H'
  | .bk Δ' => ∀ σ', LocD K W' H' σ' Δ' → D.bk σ' H'
  | .ct Δ' => ∀ σ', LocD K W' H' σ' Δ' → D.ct σ' H'
  | .rt d => ∀ v, Rp K W' H' v d → D.rt v H'

section
variable {K : PySem.W.Frag} {W W1 : Wd} {E : XK} {σ : L2.St} {H H' H1 : Hp} {Δ : Dl} {α β : Type} {st : Sta}
theorem LocD.to (h : LocD K W H σ Δ) (e : Le W H W1 H1) : LocD K W1 H1 σ Δ := ⟨h.1, fun i d q => by
  obtain ⟨v, h1, h2⟩ := h.2 i d q
  exact ⟨v, h1, h2.to e⟩⟩
theorem LocD.set {i : Nat} {v : V} {d : D} (h : LocD K W H σ Δ) (r : Rp K W H v d) : LocD K W H (σ.set i (some v)) (Δ.set i (some d)) := by
  refine ⟨by rw [List.length_set, List.length_set]; exact h.1, fun j e q => ?_⟩
  by_cases hij : i = j
  · subst hij
    rw [List.getElem?_set] at q
    simp only [if_true] at q
    split at q
    · cases q
      rename_i hl
      exact ⟨v, by rw [List.getElem?_set]; simp [h.1, hl], r⟩
    · cases q
  · rw [List.getElem?_set_ne hij] at q
    obtain ⟨w, h1, h2⟩ := h.2 j e q
    exact ⟨w, by rw [List.getElem?_set_ne hij]; exact h1, h2⟩
theorem Wnt.to {Q : α → Sta → Wd → Hp → Prop} {r : Except Exc α} {st : Sta} (h : Wnt K W E H Q r st) (e : Le W H W1 H1) : Wnt K W1 E H1 Q r st := by
  cases r with
  | ok a => exact fun W' H' e' i => h W' H' (e.trans e') i
  | error x => exact fun W' dx H' e' i z => h W' dx H' (e.trans e') i z
/-- one piece, then another -/
theorem tGw.seq {τ : Den α} {k : α → Den β} {Q : β → Sta → Wd → Hp → Prop}
    (h : tGw K W st E (fun Δ st => bd (τ Δ st) fun a st1 => k a Δ st1) σ H Q) : tGw K W st E τ σ H fun a st1 W1 H1 => Le W H W1 H1 ∧ tGw K W1 st1 E (k a) σ H1 Q := by
  obtain ⟨Δ, r, st', L, I, e, w⟩ := h
  replace e : Dn.bd (τ Δ st) (fun a st1 => k a Δ st1) = some (r, st') := e
  unfold Dn.bd at e
  cases hm : τ Δ st with
  | none => rw [hm] at e; cases e
  | some p =>
    obtain ⟨ra, st1⟩ := p
    rw [hm] at e
    cases ra with
    | error x =>
      simp only at e
      cases e
      exact ⟨Δ, .error x, _, L, I, hm, w⟩
    | ok a =>
      simp only at e
      exact ⟨Δ, .ok a, st1, L, I, hm, fun W1 H1 e1 i1 => ⟨e1, Δ, r, st', L.to e1, i1, e, w.to e1⟩⟩
theorem tGw.mono {τ : Den α} {Q Q' : α → Sta → Wd → Hp → Prop} (h : tGw K W st E τ σ H Q) (q : ∀ a st W' H', Le W H W' H' → Holds K W' H' st → Q a st W' H' → Q' a st W' H') : tGw K W st E τ σ H Q' := by
  obtain ⟨Δ, r, st', L, I, e, w⟩ := h
  refine ⟨Δ, r, st', L, I, e, ?_⟩
  cases r with
  | ok a => exact fun W' H' e i => q _ _ _ _ e i (w W' H' e i)
  | error x => exact w
theorem tGw.val {m : Dl → Option α} {Q : α → Sta → Wd → Hp → Prop} (h : tGw K W st E (fun Δ st => (m Δ).map fun a => (.ok a, st)) σ H Q) :
    ∃ Δ a, LocD K W H σ Δ ∧ Holds K W H st ∧ m Δ = some a ∧ ∀ W' H', Le W H W' H' → Holds K W' H' st → Q a st W' H' := by
  obtain ⟨Δ, r, st', L, I, e, w⟩ := h
  replace e : (m Δ).map (fun a => ((Except.ok a : Except Exc α), st)) = some (r, st') := e
  cases hm : m Δ with
  | none => rw [hm] at e; cases e
  | some a =>
    rw [hm] at e
    cases e
    exact ⟨Δ, a, L, I, hm, w⟩
theorem tGw.ret {a : α} {τ : Den α} {Q : α → Sta → Wd → Hp → Prop} (h : tGw K W st E τ σ H Q) (ht : ∀ Δ, τ Δ st = some (.ok a, st)) : Q a st W H := by
  obtain ⟨Δ, r, st', L, I, e, w⟩ := h
  rw [ht] at e
  cases e
  exact w W H (Le.refl _ _) I
theorem tGw.holds {τ : Den α} {Q : α → Sta → Wd → Hp → Prop} (h : tGw K W st E τ σ H Q) : Holds K W H st := by
  obtain ⟨_, _, _, _, I, _⟩ := h
  exact I
end

/-! ### weakening -/
section
variable {X : Cx}
theorem imE {e : Expr} {t t' : TE} (h : PE X e t) (q : ∀ σ H Q, t' σ H Q → t σ H Q) : PE X e t' := ⟨fun pins s σ H Q I w => h.run pins s σ H Q I (q _ _ _ w)⟩
theorem imT {e : Expr} {t t' : TT} (h : PT X e t) (q : ∀ σ H Q, t' σ H Q → t σ H Q) : PT X e t' := ⟨fun pins s σ H Q I w => h.run pins s σ H Q I (q _ _ _ w)⟩
theorem imW {e : Expr} {t t' : TT} (h : PW X e t) (q : ∀ σ H Q, t' σ H Q → t σ H Q) : PW X e t' := ⟨fun wh pins s σ H Q I w => h.run wh pins s σ H Q I (q _ _ _ w)⟩
theorem imA {es : List Expr} {t t' : TA} (h : PA X es t) (q : ∀ σ H Q, t' σ H Q → t σ H Q) : PA X es t' := ⟨fun pos pins s σ H Q I w => h.run pos pins s σ H Q I (q _ _ _ w)⟩
theorem imS {st : Stmt} {t t' : TS} (h : PS X st t) (q : ∀ D σ H, t' D σ H → t D σ H) : PS X st t' := ⟨fun pins s σ H D I w => h.run pins s σ H D I (q _ _ _ w)⟩
theorem imSs {st : List Stmt} {t t' : TS} (h : PSs X st t) (q : ∀ D σ H, t' D σ H → t D σ H) : PSs X st t' := ⟨fun pins s σ H D I w => h.run pins s σ H D I (q _ _ _ w)⟩
theorem imO {e : Option Expr} {t t' : TO} (h : PO X e t) (q : ∀ σ H Q, t' σ H Q → t σ H Q) : PO X e t' := ⟨fun pins s σ H Q I w => h.run pins s σ H Q I (q _ _ _ w)⟩
theorem imPTs {ifs : List Expr} {t t' : TT} (h : PTs X ifs t) (q : ∀ σ H Q, t' σ H Q → t σ H Q) : PTs X ifs t' := ⟨fun pins s σ H Q I w => h.run pins s σ H Q I (q _ _ _ w)⟩
end
end Dn

set_option Elab.async false
set_option linter.all false
set_option maxRecDepth 100000
set_option maxHeartbeats 4000000
namespace Dn
open PySem PySem.Spec PyProof.Rows L2

def big : Nat := 1000000
theorem big_line {n : Nat} (h : n ≤ big) : n ≤ sizeLine := Nat.le_trans h (by decide)

/-! ### two-place operations -/
def binP (f : D → D → Option D) (ta tb : EDen) : EDen := fun Δ st =>
  bd (ta Δ st) fun x st1 => bd (tb Δ st1) fun y st2 => (f x y).map fun d => (.ok d, st2)
def rBinD (K : PySem.W.Frag) (f : D → D → Option D) : R2 := fun x y H Q =>
  ∃ W st d1 d2 d, Rp K W H x d1 ∧ Rp K W H y d2 ∧ Holds K W H st ∧ f d1 d2 = some d ∧ ∀ v H', Same H H' → Rp K W H' v d → Q v H'
section
variable {K : PySem.W.Frag} {E : XK} {σ : L2.St} {H : Hp} {α β : Type}
theorem tD_bin {f : D → D → Option D} {ta tb : EDen} {Q : VK} (h : tD K E (binP f ta tb) σ H Q) : tOp (rBinD K f) (tD K E ta) (tD K E tb) σ H Q := by
  obtain ⟨W, st, h⟩ := h
  refine ⟨W, st, h.seq.mono fun x st1 W1 H1 e1 i1 q v rv => ⟨W1, st1, q.2.seq.mono fun y st2 W2 H2 e2 i2 q2 u ru => ?_⟩⟩
  obtain ⟨Δ, d, L, I, hf, k⟩ := q2.2.val (m := fun _ => f x y)
  exact ⟨W2, st2, x, y, d, rv.to e2, ru, I, hf, fun v' H' e r => k W2 H' (Le.of e) (I.same e) v' r⟩
end
section
variable {X : Cx} {E : XK} {a b : Expr} {ta tb : EDen} {pos : Pos}
theorem de_bin {op : Operator} {f : D → D → Option D} (ho : OpR X (binaryOp op) (rBinD X.K f)) (ha : PE X a (tD X.K E ta)) (hb : PE X b (tD X.K E tb)) : PE X (.BinOp a op b pos) (tD X.K E (binP f ta tb)) :=
  imE (pe_op ho ha hb) fun _ _ _ => tD_bin
theorem de_cmp {op : CmpOp} {f : D → D → Option D} (ho : OpR X (compareOp op) (rBinD X.K f)) (ha : PE X a (tD X.K E ta)) (hb : PE X b (tD X.K E tb)) (hm : behindInMarks op b = false) : PE X (.Compare a [op] [b] pos) (tD X.K E (binP f ta tb)) :=
  imE (pe_cmpR ho ha hb hm) fun _ _ _ => tD_bin

/-! ### the operators on values -/
def addD : D → D → Option D
  | .int i, .int j => some (.int (i + j))
  | .str x, .str y => if x.length + y.length ≤ big then some (.str (x ++ y)) else none
  | .lst xs, .lst ys => if xs.length + ys.length ≤ big then some (.lst (xs ++ ys)) else none
  | .tup xs, .tup ys => if xs.length + ys.length ≤ big then some (.tup (xs ++ ys)) else none
  | _, _ => none
theorem or_add : OpR X (binaryOp .Add) (rBinD X.K addD) := by
  intro pins s σ H x y v u Q I rx ry h
  obtain ⟨W, st, d1, d2, d, r1, r2, iv, hf, k⟩ := h
  unfold addD at hf
  split at hf
  · cases hf; cases r1; cases r2
    exact op_add pins s σ H _ _ v u Q I rx ry ⟨_, _, rfl, rfl, k _ _ (Same.refl _) (.int _)⟩
  · split at hf
    · rename_i hz
      cases hf; cases r1; cases r2
      exact op_add_str pins s σ H _ _ v u Q I rx ry ⟨_, _, rfl, rfl, big_line hz, k _ _ (Same.refl _) (.str _)⟩
    · cases hf
  · split at hf
    · rename_i hz
      cases hf
      cases r1 with
      | lst n1 s1 q1 =>
        cases r2 with
        | lst n2 s2 q2 =>
          exact op_cat pins s σ H _ _ v u Q I rx ry ⟨_, _, _, _, rfl, rfl, s1, s2, by rw [q1.length, q2.length]; exact big_line hz, fun p np =>
            k _ _ (same_new np) (rp_lst iv np (q1.append q2))⟩
    · cases hf
  · split at hf
    · rename_i hz
      cases hf
      cases r1 with
      | tup s1 q1 =>
        cases r2 with
        | tup s2 q2 =>
          refine op_catA pins s σ H _ _ v u Q I rx ry ⟨_, _, _, _, rfl, rfl, sq_t s1, sq_t s2, by rw [q1.length, q2.length]; exact big_line hz, fun e => ?_, fun _ e => ?_, fun _ _ p np => ?_⟩
          · subst e; cases q1
            exact k _ _ (Same.refl _) (.tup s2 q2)
          · subst e; cases q2
            rw [List.append_nil] at k
            exact k _ _ (Same.refl _) (.tup s1 q1)
          · exact k _ _ (same_new np) (rp_tup iv np (q1.append q2))
    · cases hf
  · cases hf
/-- an operation on two ints -/
def intD (g : Int → Int → Option Int) : D → D → Option D
  | .int i, .int j => (g i j).map .int
  | _, _ => none
theorem or_int {op : Operator} {C : Int → Int → Prop} {g' : Int → Int → Int} {g : Int → Int → Option Int} (h : OpR X (binaryOp op) (rI C fun i j => .int (g' i j))) (hg : ∀ i j k, g i j = some k → C i j ∧ k = g' i j) : OpR X (binaryOp op) (rBinD X.K (intD g)) := by
  intro pins s σ H x y v u Q I rx ry q
  obtain ⟨W, st, d1, d2, d, r1, r2, iv, hf, k⟩ := q
  unfold intD at hf
  split at hf
  · rename_i i j
    cases r1; cases r2
    cases e : g i j with
    | none => rw [e] at hf; cases hf
    | some z =>
      rw [e] at hf
      cases hf
      obtain ⟨c, rfl⟩ := hg _ _ _ e
      exact h pins s σ H _ _ v u Q I rx ry ⟨_, _, rfl, rfl, c, k _ _ (Same.refl _) (.int _)⟩
  · cases hf
theorem or_int0 {op : Operator} {g : Int → Int → Int} (h : OpR X (binaryOp op) (rI0 fun i j => .int (g i j))) : OpR X (binaryOp op) (rBinD X.K (intD fun i j => some (g i j))) := by
  refine or_int (C := fun _ _ => True) (g' := g) (fun pins s σ H x y v u Q I rx ry q => ?_) fun i j k e => ⟨trivial, (Option.some.inj e).symm⟩
  obtain ⟨i, j, rfl, rfl, _, q⟩ := q
  exact h pins s σ H _ _ v u Q I rx ry ⟨i, j, rfl, rfl, q⟩
abbrev subD := intD fun i j => some (i - j)
theorem or_sub : OpR X (binaryOp .Sub) (rBinD X.K subD) := or_int0 op_sub
def two64 : Int := 18446744073709551616
def mulI (i j : Int) : Option Int := if (-two64 < i ∧ i < two64) ∨ (-two64 < j ∧ j < two64) then some (i * j) else none
def mulD : D → D → Option D
  | .int i, .int j => (mulI i j).map .int
  | .lst xs, .int k => if -1000000 ≤ k ∧ k ≤ 1000000 ∧ xs.length * k.toNat ≤ big then some (.lst (List.replicate k.toNat xs).flatten) else none
  | _, _ => none
theorem rps_rep {K : PySem.W.Frag} {W : Wd} {H : Hp} {vs : List V} {ds : List D} (r : Rps K W H vs ds) : ∀ n : Nat, Rps K W H (List.replicate n vs).flatten (List.replicate n ds).flatten
  | 0 => .nil
  | n + 1 => by
    rw [List.replicate_succ, List.replicate_succ, List.flatten_cons, List.flatten_cons]
    exact r.append (rps_rep r n)
theorem or_mul : OpR X (binaryOp .Mult) (rBinD X.K mulD) := by
  intro pins s σ H x y v u Q I rx ry q
  obtain ⟨W, st, d1, d2, d, r1, r2, iv, hf, k⟩ := q
  unfold mulD at hf
  split at hf
  · rename_i i j
    cases r1; cases r2
    unfold mulI at hf
    split at hf
    · rename_i c
      cases hf
      exact op_mul pins s σ H _ _ v u Q I rx ry ⟨_, _, rfl, rfl, c, k _ _ (Same.refl _) (.int _)⟩
    · cases hf
  · split at hf
    · rename_i c
      cases hf
      cases r2
      cases r1 with
      | lst n1 s1 q1 =>
        exact op_rep pins s σ H _ _ v u Q I rx ry ⟨_, _, _, rfl, rfl, s1, by omega, by omega, by rw [q1.length]; exact big_line c.2.2, fun p np => k _ _ (same_new np) (rp_lst iv np (rps_rep q1 _))⟩
    · cases hf
  · cases hf
def fdivI (i j : Int) : Option Int := if 0 < j ∧ j < 1073741824 then some (i / j) else none
def modI (i j : Int) : Option Int := if 0 < j then some (i % j) else none
def shlI (i j : Int) : Option Int := if 0 ≤ j ∧ j ≤ 1000000 ∧ i.natAbs < 2 ^ 64 then some (i * 2 ^ j.toNat) else none
def powI (i j : Int) : Option Int := if 0 ≤ j ∧ j ≤ 1000000 ∧ i.natAbs < 2 ^ 64 then some (i ^ j.toNat) else none
def shrI (i j : Int) : Option Int := if 0 ≤ j then some (i / 2 ^ j.toNat) else none
theorem ite_some {c : Prop} [Decidable c] {a k : Int} (h : (if c then some a else none) = some k) : c ∧ k = a := by
  split at h
  · exact ⟨by assumption, (Option.some.inj h).symm⟩
  · cases h
theorem or_fdiv : OpR X (binaryOp .FloorDiv) (rBinD X.K (intD fdivI)) := or_int op_fdiv fun i j _ e => ite_some (c := 0 < j ∧ j < 1073741824) e
theorem or_mod : OpR X (binaryOp .Mod) (rBinD X.K (intD modI)) := or_int op_mod fun _ _ _ e => ite_some e
theorem or_shl : OpR X (binaryOp .LShift) (rBinD X.K (intD shlI)) := or_int op_shl fun i j _ e => ite_some (c := 0 ≤ j ∧ j ≤ 1000000 ∧ i.natAbs < 2 ^ 64) e
theorem or_pow : OpR X (binaryOp .Pow) (rBinD X.K (intD powI)) := or_int op_pow fun i j _ e => ite_some (c := 0 ≤ j ∧ j ≤ 1000000 ∧ i.natAbs < 2 ^ 64) e
theorem or_shr : OpR X (binaryOp .RShift) (rBinD X.K (intD shrI)) := or_int op_shr fun _ _ _ e => ite_some e
theorem or_and : OpR X (binaryOp .BitAnd) (rBinD X.K (intD fun i j => some (Builtin.bitAnd i j))) := or_int0 op_and
theorem or_or : OpR X (binaryOp .BitOr) (rBinD X.K (intD fun i j => some (Builtin.bitOr i j))) := or_int0 op_or
theorem or_xor : OpR X (binaryOp .BitXor) (rBinD X.K (intD fun i j => some (Builtin.bitXor i j))) := or_int0 op_xor

/-! ### comparisons -/
def sLt (x y : Str) : Bool := decide (x.cps.toList < y.cps.toList)
def ordD (fi : Int → Int → Bool) (fs : Str → Str → Bool) : D → D → Option D
  | .int i, .int j => some (.bl (fi i j))
  | .str x, .str y => some (.bl (fs x y))
  | _, _ => none
theorem or_ord {op : CmpOp} {fi : Int → Int → Bool} {fs : Str → Str → Bool} (h1 : OpR X (compareOp op) (rI0 fun i j => .bl (fi i j))) (h2 : OpR X (compareOp op) (fun x y H Q => ∃ i j, x = .str i ∧ y = .str j ∧ Q (.bl (fs i j)) H)) :
    OpR X (compareOp op) (rBinD X.K (ordD fi fs)) := by
  intro pins s σ H x y v u Q I rx ry q
  obtain ⟨W, st, d1, d2, d, r1, r2, iv, hf, k⟩ := q
  unfold ordD at hf
  split at hf
  · cases hf; cases r1; cases r2
    exact h1 pins s σ H _ _ v u Q I rx ry ⟨_, _, rfl, rfl, k _ _ (Same.refl _) (.bl _)⟩
  · cases hf; cases r1; cases r2
    exact h2 pins s σ H _ _ v u Q I rx ry ⟨_, _, rfl, rfl, k _ _ (Same.refl _) (.bl _)⟩
  · cases hf
abbrev ltD := ordD (fun i j => decide (i < j)) sLt
abbrev leD := ordD (fun i j => decide (i ≤ j)) (fun x y => !sLt y x)
abbrev gtD := ordD (fun i j => decide (j < i)) (fun x y => sLt y x)
abbrev geD := ordD (fun i j => decide (j ≤ i)) (fun x y => !sLt x y)
theorem or_lt : OpR X (compareOp .Lt) (rBinD X.K ltD) := or_ord op_lt op_lt_str
theorem or_le : OpR X (compareOp .LtE) (rBinD X.K leD) := or_ord op_le op_le_str
theorem or_gt : OpR X (compareOp .Gt) (rBinD X.K gtD) := or_ord op_gt op_gt_str
theorem or_ge : OpR X (compareOp .GtE) (rBinD X.K geD) := or_ord op_ge op_ge_str

mutual
def toPy : D → Option PyData
  | .non => some .none
  | .bl b => some (.bool b)
  | .int i => some (.int i)
  | .str x => some (.str x)
  | .lst ds => (toPys ds).map .list
  | .tup ds => (toPys ds).map .tuple
  | _ => none
def toPys : List D → Option (List PyData)
  | [] => some []
  | d :: ds => (toPy d).bind fun a => (toPys ds).map fun r => a :: r
end
section
variable {K : PySem.W.Frag} {W : Wd} {H : Hp}
mutual
theorem Rp.dp : ∀ (d : D) (v : V) (p : PyData), Rp K W H v d → toPy d = some p → Dp K H v p
  | .non, _, _, h, e => by cases h; simp only [toPy] at e; cases e; exact .non
  | .bl b, _, _, h, e => by cases h; simp only [toPy] at e; cases e; exact .bl b
  | .int i, _, _, h, e => by cases h; simp only [toPy] at e; cases e; exact .int i
  | .str x, _, _, h, e => by cases h; simp only [toPy] at e; cases e; exact .str x
  | .lst ds, _, _, h, e => by
    cases h with
    | lst n s r =>
      simp only [toPy] at e
      cases q : toPys ds with
      | none => rw [q] at e; cases e
      | some ps =>
        rw [q] at e
        cases e
        exact .lst (sq_l s) (Rps.dp ds _ _ r q)
  | .tup ds, _, _, h, e => by
    cases h with
    | tup s r =>
      simp only [toPy] at e
      cases q : toPys ds with
      | none => rw [q] at e; cases e
      | some ps =>
        rw [q] at e
        cases e
        exact .tup (sq_t s) (Rps.dp ds _ _ r q)
  | .ftp _, _, _, _, e => by simp only [toPy] at e; cases e
  | .obj _ _ _, _, _, _, e => by simp only [toPy] at e; cases e
  | .opq _, _, _, _, e => by simp only [toPy] at e; cases e
theorem Rps.dp : ∀ (ds : List D) (vs : List V) (ps : List PyData), Rps K W H vs ds → toPys ds = some ps → DpAll K H vs ps
  | [], _, _, h, e => by cases h; simp only [toPys] at e; cases e; exact .nil
  | d :: ds, _, _, h, e => by
    cases h with
    | cons h1 h2 =>
      simp only [toPys] at e
      cases q : toPy d with
      | none => rw [q] at e; cases e
      | some p =>
        rw [q] at e
        cases q2 : toPys ds with
        | none => rw [q2] at e; cases e
        | some ps =>
          rw [q2] at e
          cases e
          exact .cons (Rp.dp d _ _ h1 q) (Rps.dp ds _ _ h2 q2)
end
end
/-- data that may be compared -/
def shP (d : D) : Option PyData := (toPy d).bind fun p => if SeqAt.shaped p = true then some p else none
theorem shP_of {d : D} {p : PyData} (h : shP d = some p) : toPy d = some p ∧ SeqAt.shaped p = true := by
  unfold shP at h
  cases e : toPy d with
  | none => rw [e] at h; cases h
  | some q =>
    rw [e] at h
    simp only [Option.bind] at h
    split at h
    · cases h; exact ⟨rfl, by assumption⟩
    · cases h
def eqB (x y : D) : Option Bool := (shP x).bind fun a => (shP y).map fun b => PyData.eqv a b
def eqD (x y : D) : Option D := (eqB x y).map .bl
def neD (x y : D) : Option D := (eqB x y).map fun b => .bl (!b)
theorem eqB_of {x y : D} {b : Bool} (h : eqB x y = some b) : ∃ p q, toPy x = some p ∧ toPy y = some q ∧ SeqAt.shaped p = true ∧ SeqAt.shaped q = true ∧ b = PyData.eqv p q := by
  unfold eqB at h
  cases e : shP x with
  | none => rw [e] at h; cases h
  | some p =>
    rw [e] at h
    cases e2 : shP y with
    | none => rw [e2] at h; cases h
    | some q =>
      rw [e2] at h
      cases h
      exact ⟨p, q, (shP_of e).1, (shP_of e2).1, (shP_of e).2, (shP_of e2).2, rfl⟩
theorem or_eq (hu : X.A.units + 64 < cLine) : OpR X (compareOp .Eq) (rBinD X.K eqD) := by
  intro pins s σ H x y v u Q I rx ry q
  obtain ⟨W, st, d1, d2, d, r1, r2, iv, hf, k⟩ := q
  unfold eqD at hf
  cases e : eqB d1 d2 with
  | none => rw [e] at hf; cases hf
  | some b =>
    rw [e] at hf
    cases hf
    obtain ⟨p, q, h1, h2, h3, h4, rfl⟩ := eqB_of e
    exact op_eqD hu pins s σ H _ _ v u Q I rx ry ⟨p, q, r1.dp _ _ _ h1, r2.dp _ _ _ h2, h3, h4, k _ _ (Same.refl _) (.bl _)⟩
theorem or_ne (hu : X.A.units + 64 < cLine) : OpR X (compareOp .NotEq) (rBinD X.K neD) := by
  intro pins s σ H x y v u Q I rx ry q
  obtain ⟨W, st, d1, d2, d, r1, r2, iv, hf, k⟩ := q
  unfold neD at hf
  cases e : eqB d1 d2 with
  | none => rw [e] at hf; cases hf
  | some b =>
    rw [e] at hf
    cases hf
    obtain ⟨p, q, h1, h2, h3, h4, rfl⟩ := eqB_of e
    exact op_neD hu pins s σ H _ _ v u Q I rx ry ⟨p, q, r1.dp _ _ _ h1, r2.dp _ _ _ h2, h3, h4, k _ _ (Same.refl _) (.bl _)⟩
end
end Dn

set_option Elab.async false
set_option linter.all false
set_option maxRecDepth 100000
set_option maxHeartbeats 4000000
namespace Dn
open PySem PySem.Spec PyProof.Rows L2

/-! ### leaves, truth, and, or, not, if else -/
def cstP (d : D) : EDen := fun _ st => some (.ok d, st)
def varP (i : Nat) : EDen := fun Δ st => (match Δ[i]? with | some (some d) => some d | _ => none).map fun d => (.ok d, st)
section
variable {X : Cx} {E : XK} {a b c : Expr} {ta tb tc : EDen} {pos : Pos} {σ : L2.St} {H : Hp} {Q : VK}
theorem tD_cst {v : V} {d : D} (h : tD X.K E (cstP d) σ H Q) (r : ∀ W H', Rp X.K W H' v d) : Q v H := by
  obtain ⟨W, st0, h⟩ := h
  obtain ⟨Δ, x, L, I, e, k⟩ := h.val (m := fun _ => some d)
  cases e
  exact k W H (Le.refl _ _) I v (r _ _)
theorem de_int {i : Int} {j : Nat} : PE X (.Constant (.int i) j pos) (tD X.K E (cstP (.int i))) := imE pe_int fun _ _ _ h => tD_cst h fun _ _ => .int i
theorem de_bl {i : Bool} {j : Nat} : PE X (.Constant (.bool i) j pos) (tD X.K E (cstP (.bl i))) := imE pe_bl fun _ _ _ h => tD_cst h fun _ _ => .bl i
theorem de_non {j : Nat} : PE X (.Constant .none j pos) (tD X.K E (cstP .non)) := imE pe_non fun _ _ _ h => tD_cst h fun _ _ => .non
theorem de_str {x : Str} {j : Nat} : PE X (.Constant (.str x) j pos) (tD X.K E (cstP (.str x))) := imE pe_str fun _ _ _ h => tD_cst h fun _ _ => .str x
theorem tD_var {i : Nat} (h : tD X.K E (varP i) σ H Q) : tVar i σ H Q := by
  obtain ⟨W, st0, h⟩ := h
  obtain ⟨Δ, x, L, I, e, k⟩ := h.val (m := fun Δ => match Δ[i]? with | some (some d) => some d | _ => none)
  split at e
  · rename_i d hd
    cases e
    obtain ⟨v, hv, rv⟩ := L.2 i _ hd
    exact ⟨v, hv, k W H (Le.refl _ _) I v rv⟩
  · cases e
theorem de_var (i : Nat) {x : Str} (hN : X.N[i]? = some x := by rfl) (hv : Vis X.env.scope x := by first | exact Or.inl rfl | exact Or.inr (Or.inl rfl) | exact Or.inr (Or.inr rfl)) (hd : (x == ("__debug__" : Str)) = false := by decide)
    (hcd : (x == ("__classdict__" : Str)) = false := by decide) : PE X (.Name x pos) (tD X.K E (varP i)) := imE (pe_var hN hv hd hcd) fun _ _ _ => tD_var
/-- a constant of the module: an int, a text, None, a bool -/
theorem de_glob {x : Str} {u : Value} {v : V} {d : D} (hg : Gl X x) (hm : X.mg x = some u) (r : RelV v u) (rd : ∀ W H', Rp X.K W H' v d) (hd : (x == ("__debug__" : Str)) = false := by decide) : PE X (.Name x pos) (tD X.K E (cstP d)) :=
  imE (pe_glob hg hm r hd) fun _ _ _ h => tD_cst h rd
/-- a builtin's name as a value -/
theorem de_bltn {x : Str} {u : Value} {v : V} (hg : Gl X x) (hm : X.mg x = none) (hv : bootBuiltins x = some u) (r : RelV v u) (hn : x ≠ "__name__" := by decide) (hd : (x == ("__debug__" : Str)) = false := by decide) : PE X (.Name x pos) (tD X.K E (cstP (.opq v))) :=
  imE (pe_bltn hg hm hv r hn hd) fun _ _ _ h => tD_cst h fun _ _ => .opq v

def truD : D → Option Bool
  | .non => some false
  | .bl b => some b
  | .int i => some (i != 0)
  | .str y => if y.length ≤ big then some ((y.length : Int) != 0) else none
  | .lst ds => some (!ds.isEmpty)
  | .tup ds => some (!ds.isEmpty)
  | _ => none
theorem rps_empty {K : PySem.W.Frag} {W : Wd} {H : Hp} {vs : List V} {ds : List D} (r : Rps K W H vs ds) : vs.isEmpty = ds.isEmpty := by cases r <;> rfl
theorem tru_of {K : PySem.W.Frag} {W : Wd} {H : Hp} {v : V} {d : D} {b : Bool} (r : Rp K W H v d) (h : truD d = some b) : TruV K v H b := by
  cases r with
  | non => cases h; rfl
  | bl b => cases h; rfl
  | int i => cases h; rfl
  | str x =>
    simp only [truD] at h
    split at h
    · cases h
      exact ⟨big_line (by assumption), rfl⟩
    · cases h
  | lst n s r =>
    cases h
    exact .inl ⟨_, sq_l s, by rw [rps_empty r]⟩
  | tup s r =>
    cases h
    exact .inr (.inl ⟨_, sq_t s, by rw [rps_empty r]⟩)
  | ftp _ _ _ _ => cases h
  | obj _ _ _ _ => cases h
  | opq _ => cases h
  | hnd _ _ => cases h
def truP (ta : EDen) : TDen := fun Δ st => bd (ta Δ st) fun d st1 => (truD d).map fun b => (.ok b, st1)
theorem tTD_tru {Q : Bool → Hp → Prop} (h : tTD X.K E (truP ta) σ H Q) : tD X.K E ta σ H fun x H' => ∃ k, TruV X.K x H' k ∧ Q k H' := by
  obtain ⟨W, st0, h⟩ := h
  refine ⟨W, st0, h.seq.mono fun d st1 W1 H1 e1 i1 q v rv => ?_⟩
  obtain ⟨Δ, b, L, I, e, k⟩ := q.2.val (m := fun _ => truD d)
  exact ⟨b, tru_of rv e, k W1 H1 (Le.refl _ _) I⟩
/-- a name, a call, an attribute, a subscript as a test -/
theorem dt_tru (ha : PE X a (tD X.K E ta)) (he : ∀ whole, isTrue a X.env whole = (do let v ← whole; standAt a.pos; holding [v] (truthy v)) := by intro _; rfl) : PT X a (tTD X.K E (truP ta)) :=
  imT (pt_truth ha he) fun _ _ _ => tTD_tru
def blOf (d : D) : Option Bool := match d with | .bl b => some b | _ => none
def tstP (ta : EDen) : TDen := fun Δ st => bd (ta Δ st) fun d st1 => (blOf d).map fun b => (.ok b, st1)
theorem tTD_tst {Q : Bool → Hp → Prop} (h : tTD X.K E (tstP ta) σ H Q) : tD X.K E ta σ H fun x H' => ∃ k, x = .bl k ∧ Q k H' := by
  obtain ⟨W, st0, h⟩ := h
  refine ⟨W, st0, h.seq.mono fun d st1 W1 H1 e1 i1 q v rv => ?_⟩
  obtain ⟨Δ, b, L, I, e, k⟩ := q.2.val (m := fun _ => blOf d)
  cases rv <;> simp only [blOf] at e <;> cases e
  exact ⟨_, rfl, k W1 H1 (Le.refl _ _) I⟩
/-- a comparison as a test -/
theorem dt_cmp {op : CmpOp} {f : D → D → Option D} (ho : OpR X (compareOp op) (rBinD X.K f)) (ha : PE X a (tD X.K E ta)) (hb : PE X b (tD X.K E tb)) (hm : behindInMarks op b = false) : PT X (.Compare a [op] [b] pos) (tTD X.K E (tstP (binP f ta tb))) :=
  imT (pt_cmpR ho ha hb hm) fun σ H Q h => by
    show tOp (rBinD X.K f) (tD X.K E ta) (tD X.K E tb) σ H _
    exact tD_bin (tTD_tst h)
/-- a op b op' c -/
def chP (f g : D → D → Option D) (ta tb tc : EDen) : EDen := fun Δ st =>
  bd (ta Δ st) fun x st1 => bd (tb Δ st1) fun y st2 => bd (((f x y).bind blOf).map fun b => (.ok b, st2)) fun b st3 =>
    if b = true then bd (tc Δ st3) fun z st4 => (g y z).map fun d => (.ok d, st4) else some (.ok (.bl false), st3)
theorem tD_ch {f g : D → D → Option D} (h : tD X.K E (chP f g ta tb tc) σ H Q) : tChain (rBinD X.K f) (rBinD X.K g) (tD X.K E ta) (tD X.K E tb) (tD X.K E tc) σ H Q := by
  obtain ⟨W, st0, h⟩ := h
  refine ⟨W, st0, h.seq.mono fun x st1 W1 H1 e1 i1 q v rv => ?_⟩
  refine ⟨W1, st1, q.2.seq.mono fun y st2 W2 H2 e2 i2 q2 u ru => ?_⟩
  obtain ⟨e2', q3⟩ := q2
  obtain ⟨Δ, b, L, I, hf, k⟩ := q3.seq.val (m := fun _ => (f x y).bind blOf)
  cases hd : f x y with
  | none => rw [hd] at hf; cases hf
  | some d =>
    rw [hd] at hf
    refine ⟨W2, st2, x, y, d, rv.to e2, ru, I, hd, fun w H3 e3 rw' => ?_⟩
    cases rw' <;> simp only [Option.bind, blOf] at hf <;> cases hf
    obtain ⟨_, q5⟩ := k W2 H3 (Le.of e3) (I.same e3)
    refine ⟨_, rfl, ?_⟩
    split
    · rename_i hb
      subst hb
      simp only [if_true] at q5
      refine ⟨W2, st2, q5.seq.mono fun z st4 W4 H4 e4 i4 q6 w' rz => ?_⟩
      obtain ⟨Δ', d', L', I', hg, k'⟩ := q6.2.val (m := fun _ => g y z)
      exact ⟨W4, st4, y, z, d', (ru.to (Le.of e3)).to e4, rz, I', hg, fun v' H' e r => k' W4 H' (Le.of e) (I'.same e) v' r⟩
    · rename_i hb
      simp only [hb] at q5
      exact tD_cst (d := .bl false) ⟨W2, st2, q5⟩ fun _ _ => .bl false
theorem de_ch {op op' : CmpOp} {f g : D → D → Option D} (ho : OpR X (compareOp op) (rBinD X.K f)) (ho' : OpR X (compareOp op') (rBinD X.K g)) (ha : PE X a (tD X.K E ta)) (hb : PE X b (tD X.K E tb)) (hc : PE X c (tD X.K E tc))
    (hm : lastMarks [op, op'] [b, c] = false := by with_unfolding_all rfl) : PE X (.Compare a [op, op'] [b, c] pos) (tD X.K E (chP f g ta tb tc)) := imE (pe_chain ho ho' ha hb hc hm) fun _ _ _ => tD_ch
theorem dt_ch {op op' : CmpOp} {f g : D → D → Option D} (ho : OpR X (compareOp op) (rBinD X.K f)) (ho' : OpR X (compareOp op') (rBinD X.K g)) (ha : PE X a (tD X.K E ta)) (hb : PE X b (tD X.K E tb)) (hc : PE X c (tD X.K E tc))
    (hm : lastMarks [op, op'] [b, c] = false := by with_unfolding_all rfl) : PT X (.Compare a [op, op'] [b, c] pos) (tTD X.K E (tstP (chP f g ta tb tc))) := imT (pt_chain ho ho' ha hb hc hm) fun σ H Q h => tD_ch (tTD_tst h)

def andT (ta tb : TDen) : TDen := fun Δ st => bd (ta Δ st) fun b st1 => if b = true then tb Δ st1 else some (.ok false, st1)
def orT (ta tb : TDen) : TDen := fun Δ st => bd (ta Δ st) fun b st1 => if b = true then some (.ok true, st1) else tb Δ st1
def notT (ta : TDen) : TDen := fun Δ st => bd (ta Δ st) fun b st1 => some (.ok (!b), st1)
variable {tA tB : TDen} {rest : List Expr}
theorem dw_and1 (ha : PT X a (tTD X.K E tA)) : PW X (.BoolOp .And [a] pos) (tTD X.K E tA) := pw_and1 ha
theorem dw_or1 (ha : PT X a (tTD X.K E tA)) : PW X (.BoolOp .Or [a] pos) (tTD X.K E tA) := pw_or1 ha
theorem dw_and (ha : PT X a (tTD X.K E tA)) (hb : PW X (.BoolOp .And (b :: rest) pos) (tTD X.K E tB)) : PW X (.BoolOp .And (a :: b :: rest) pos) (tTD X.K E (andT tA tB)) :=
  imW (pw_and ha hb) fun σ H Q h => by
    obtain ⟨W, st0, h⟩ := h
    refine ⟨W, st0, (h.seq (k := fun b Δ st1 => if b = true then tB Δ st1 else some (.ok false, st1))).mono fun c st1 W1 H1 e1 i1 q => ?_⟩
    obtain ⟨_, q⟩ := q
    cases c with
    | true => exact iteT ⟨W1, st1, q⟩
    | false =>
      exact iteF (q.ret fun _ => rfl)
theorem dw_or (ha : PT X a (tTD X.K E tA)) (hb : PW X (.BoolOp .Or (b :: rest) pos) (tTD X.K E tB)) : PW X (.BoolOp .Or (a :: b :: rest) pos) (tTD X.K E (orT tA tB)) :=
  imW (pw_or ha hb) fun σ H Q h => by
    obtain ⟨W, st0, h⟩ := h
    refine ⟨W, st0, (h.seq (k := fun b Δ st1 => if b = true then some (.ok true, st1) else tB Δ st1)).mono fun c st1 W1 H1 e1 i1 q => ?_⟩
    obtain ⟨_, q⟩ := q
    cases c with
    | false => exact iteF ⟨W1, st1, q⟩
    | true =>
      exact iteT (q.ret fun _ => rfl)
theorem dt_w {e : Expr} (h : PW X e (tTD X.K E tA)) : PT X e (tTD X.K E tA) := h.pt
theorem dt_not (ha : PT X a (tTD X.K E tA)) : PT X (.UnaryOp .Not a pos) (tTD X.K E (notT tA)) :=
  imT (pt_not ha) fun σ H Q h => by
    obtain ⟨W, st0, h⟩ := h
    refine ⟨W, st0, (h.seq (k := fun b _ st1 => some (.ok (!b), st1))).mono fun c st1 W1 H1 e1 i1 q => ?_⟩
    exact q.2.ret fun _ => rfl
/-- as values: all but the last are bools -/
def andV (ta tb : EDen) : EDen := fun Δ st => bd (ta Δ st) fun d st1 => bd ((blOf d).map fun b => (.ok b, st1)) fun b st2 => if b = true then tb Δ st2 else some (.ok (.bl false), st2)
def orV (ta tb : EDen) : EDen := fun Δ st => bd (ta Δ st) fun d st1 => bd ((blOf d).map fun b => (.ok b, st1)) fun b st2 => if b = true then some (.ok (.bl true), st2) else tb Δ st2
def notV (ta : EDen) : EDen := fun Δ st => bd (ta Δ st) fun d st1 => (blOf d).map fun b => (.ok (.bl (!b)), st1)
theorem de_one {op : BoolOp} (ha : PE X a (tD X.K E ta)) : PE X (.BoolOp op [a] pos) (tD X.K E ta) := pe_one ha
theorem de_and (ha : PE X a (tD X.K E ta)) (hb : PE X (.BoolOp .And (b :: rest) pos) (tD X.K E tb)) : PE X (.BoolOp .And (a :: b :: rest) pos) (tD X.K E (andV ta tb)) :=
  imE (pe_and ha hb) fun σ H Q h => by
    obtain ⟨W, st0, h⟩ := h
    refine ⟨W, st0, h.seq.mono fun d st1 W1 H1 e1 i1 q v rv => ?_⟩
    obtain ⟨Δ, b, L, I, e, k⟩ := q.2.seq.val (m := fun _ => blOf d)
    cases rv <;> simp only [blOf] at e <;> cases e
    obtain ⟨_, q3⟩ := k W1 H1 (Le.refl _ _) I
    refine ⟨_, rfl, ?_⟩
    split
    · rename_i hb; subst hb; exact ⟨W1, st1, q3⟩
    · rename_i hb; simp only [hb] at q3
      exact tD_cst (d := .bl false) ⟨W1, st1, q3⟩ fun _ _ => .bl false
theorem de_or (ha : PE X a (tD X.K E ta)) (hb : PE X (.BoolOp .Or (b :: rest) pos) (tD X.K E tb)) : PE X (.BoolOp .Or (a :: b :: rest) pos) (tD X.K E (orV ta tb)) :=
  imE (pe_or ha hb) fun σ H Q h => by
    obtain ⟨W, st0, h⟩ := h
    refine ⟨W, st0, h.seq.mono fun d st1 W1 H1 e1 i1 q v rv => ?_⟩
    obtain ⟨Δ, b, L, I, e, k⟩ := q.2.seq.val (m := fun _ => blOf d)
    cases rv <;> simp only [blOf] at e <;> cases e
    obtain ⟨_, q3⟩ := k W1 H1 (Le.refl _ _) I
    refine ⟨_, rfl, ?_⟩
    split
    · rename_i hb; subst hb
      exact tD_cst (d := .bl true) ⟨W1, st1, q3⟩ fun _ _ => .bl true
    · rename_i hb; simp only [hb] at q3
      exact ⟨W1, st1, q3⟩
theorem de_not (ha : PE X a (tD X.K E ta)) : PE X (.UnaryOp .Not a pos) (tD X.K E (notV ta)) :=
  imE (pe_not ha) fun σ H Q h => by
    obtain ⟨W, st0, h⟩ := h
    refine ⟨W, st0, h.seq.mono fun d st1 W1 H1 e1 i1 q v rv => ?_⟩
    obtain ⟨Δ, r, st', L, I, e, k⟩ := q.2
    cases rv <;> simp only [blOf] at e <;> cases e
    exact ⟨_, rfl, k W1 H1 (Le.refl _ _) I _ (.bl _)⟩
def ifP {α : Type} (tc : TDen) (ta tb : Den α) : Den α := fun Δ st => bd (tc Δ st) fun b st1 => if b = true then ta Δ st1 else tb Δ st1
theorem de_if (hc : PT X c (tTD X.K E tA)) (ha : PE X a (tD X.K E ta)) (hb : PE X b (tD X.K E tb)) : PE X (.IfExp c a b pos) (tD X.K E (ifP tA ta tb)) :=
  imE (pe_ifExp hc ha hb) fun σ H Q h => by
    obtain ⟨W, st0, h⟩ := h
    refine ⟨W, st0, (h.seq (k := fun b Δ st1 => if b = true then ta Δ st1 else tb Δ st1)).mono fun k st1 W1 H1 e1 i1 q => ?_⟩
    obtain ⟨_, q⟩ := q
    cases k with
    | true => exact iteT ⟨W1, st1, q⟩
    | false => exact iteF ⟨W1, st1, q⟩

/-! ### arguments, displays -/
def nilP : ADen := fun _ st => some (.ok [], st)
def consP (ta : EDen) (tr : ADen) : ADen := fun Δ st => bd (ta Δ st) fun d st1 => bd (tr Δ st1) fun ds st2 => some (.ok (d :: ds), st2)
variable {es : List Expr} {tr : ADen}
theorem da_nil : PA X [] (tAD X.K E nilP) := by
  refine imA pa_nil fun σ H Q h => ?_
  obtain ⟨W, st0, h⟩ := h
  exact h.ret (fun _ => rfl) [] .nil
theorem da_cons (ha : PE X a (tD X.K E ta)) (hr : PA X es (tAD X.K E tr)) (hs : starEach (a :: es) X.env = (false, eval a X.env) :: starEach es X.env := by rfl) : PA X (a :: es) (tAD X.K E (consP ta tr)) := by
  refine imA (pa_cons ha hr hs) fun σ H Q h => ?_
  obtain ⟨W, st0, h⟩ := h
  refine ⟨W, st0, h.seq.mono fun d st1 W1 H1 e1 i1 q v rv => ?_⟩
  refine ⟨W1, st1, q.2.seq.mono fun ds st2 W2 H2 e2 i2 q2 vs rs => ?_⟩
  exact q2.2.ret (fun _ => rfl) _ (.cons (rv.to e2) rs)
def lstP (tr : ADen) : EDen := fun Δ st => bd (tr Δ st) fun ds st1 => if ds.length ≤ big then some (.ok (.lst ds), st1) else none
def tupP (tr : ADen) : EDen := fun Δ st => bd (tr Δ st) fun ds st1 => if ds.length ≤ big then some (.ok (.tup ds), st1) else none
theorem de_lst (h : PA X es (tAD X.K E tr)) : PE X (.List es pos) (tD X.K E (lstP tr)) := by
  refine imE (pe_lst h) fun σ H Q h => ?_
  obtain ⟨W, st0, h⟩ := h
  refine ⟨W, st0, h.seq.mono fun ds st1 W1 H1 e1 i1 q vs rs => ?_⟩
  obtain ⟨Δ, r, st', L, I, e, k⟩ := q.2
  simp only at e
  split at e
  · cases e
    exact ⟨by rw [rs.length]; exact big_line (by assumption), fun p np => k W1 _ (Le.of (same_new np)) (I.same (same_new np)) _ (rp_lst I np rs)⟩
  · cases e
theorem de_tup {x1 : Nat} (h : PA X es (tAD X.K E tr)) : PE X (.Tuple es x1 pos) (tD X.K E (tupP tr)) := by
  refine imE (pe_tup h) fun σ H Q h => ?_
  obtain ⟨W, st0, h⟩ := h
  refine ⟨W, st0, h.seq.mono fun ds st1 W1 H1 e1 i1 q vs rs => ?_⟩
  obtain ⟨Δ, r, st', L, I, e, k⟩ := q.2
  simp only at e
  split at e
  · cases e
    exact ⟨by rw [rs.length]; exact big_line (by assumption), fun p np => k W1 _ (Le.of (same_new np)) (I.same (same_new np)) _ (rp_tup I np rs)⟩
  · cases e

/-! ### subscripts -/
def ixD : D → D → Option D
  | .lst ds, .int i => atI ds i
  | .tup ds, .int i => atI ds i
  | .str z, .int i => if z.length ≤ big then (atI z.cps.toList i).map fun c => .str ⟨#[c]⟩ else none
  | _, _ => none
theorem rps_at {K : PySem.W.Frag} {W : Wd} {H : Hp} {vs : List V} {ds : List D} {i : Int} {d : D} (r : Rps K W H vs ds) (h : atI ds i = some d) : ∃ v, atI vs i = some v ∧ Rp K W H v d := by
  unfold atI at h ⊢
  rw [r.length]
  cases e : ixN ds.length i with
  | none => rw [e] at h; cases h
  | some j =>
    rw [e] at h
    obtain ⟨v, h1, h2⟩ := r.get h
    exact ⟨v, h1, h2⟩
theorem ir_ix : IxR X (rBinD X.K ixD) := by
  intro value slice pins s σ H x y v u Q I rx ry q hs
  obtain ⟨W, st, d1, d2, d, r1, r2, iv, hf, k⟩ := q
  unfold ixD at hf
  split at hf
  · cases r2
    cases r1 with
    | lst n1 s1 q1 =>
      obtain ⟨w, h1, h2⟩ := rps_at q1 hf
      exact ix_list value slice pins s σ H _ _ v u Q I rx ry ⟨_, _, _, w, rfl, rfl, sq_l s1, h1, k _ _ (Same.refl _) h2⟩ hs
  · cases r2
    cases r1 with
    | tup s1 q1 =>
      obtain ⟨w, h1, h2⟩ := rps_at q1 hf
      exact ix_tup value slice pins s σ H _ _ v u Q I rx ry ⟨_, _, _, w, rfl, rfl, sq_t s1, h1, k _ _ (Same.refl _) h2⟩ hs
  · cases r1; cases r2
    split at hf
    · rename_i z i hz
      cases e : atI z.cps.toList i with
      | none => rw [e] at hf; cases hf
      | some c =>
        rw [e] at hf
        cases hf
        exact ix_str value slice pins s σ H _ _ v u Q I rx ry ⟨_, _, c, rfl, rfl, big_line hz, e, k _ _ (Same.refl _) (.str _)⟩ hs
    · cases hf
  · cases hf
theorem de_ix (ha : PE X a (tD X.K E ta)) (hb : PE X b (tD X.K E tb)) (hs : PlainIx b := by exact fun _ _ => rfl) : PE X (.Subscript a b pos) (tD X.K E (binP ixD ta tb)) :=
  imE (pe_ix ir_ix ha hb hs) fun _ _ _ => tD_bin
abbrev ODen := Den (Option Int)
def tOD (K : PySem.W.Frag) (E : XK) (τ : ODen) : TO := fun σ H Q => tG K E τ σ H fun o _ _ H' => Q o H'
def noP : ODen := fun _ st => some (.ok none, st)
def intOf (d : D) : Option Int := match d with | .int i => some i | _ => none
def soP (ta : EDen) : ODen := fun Δ st => bd (ta Δ st) fun d st1 => (intOf d).map fun i => (.ok (some i), st1)
theorem do_no : PO X none (tOD X.K E noP) := by
  refine imO po_none fun σ H Q h => ?_
  obtain ⟨W, st0, h⟩ := h
  exact h.ret fun _ => rfl
theorem do_so (ha : PE X a (tD X.K E ta)) : PO X (some a) (tOD X.K E (soP ta)) := by
  refine imO (po_some ha) fun σ H Q h => ?_
  obtain ⟨W, st0, h⟩ := h
  refine ⟨W, st0, h.seq.mono fun d st1 W1 H1 e1 i1 q v rv => ?_⟩
  obtain ⟨Δ, r, st', L, I, e, k⟩ := q.2
  cases rv <;> simp only [intOf] at e <;> cases e
  exact ⟨_, rfl, k W1 H1 (Le.refl _ _) I⟩
def cutL (ds : List D) (lo hi : Option Int) : List D := (ds.drop (HT.sIx ds.length 0 lo)).take (HT.sIx ds.length ds.length hi - HT.sIx ds.length 0 lo)
def slD (d : D) (lo hi : Option Int) : Option D := match d with
  | .lst ds => some (.lst (cutL ds lo hi))
  | .tup ds => some (.tup (cutL ds lo hi))
  | .str z => if z.length ≤ big then some (.str (cutS z lo hi)) else none
  | _ => none
theorem rps_cut {K : PySem.W.Frag} {W : Wd} {H : Hp} {vs : List V} {ds : List D} (r : Rps K W H vs ds) (lo hi : Option Int) : Rps K W H (cutV vs lo hi) (cutL ds lo hi) := by
  unfold cutV cutL
  rw [r.length]
  exact (r.drop _).take _
theorem cutL_whole {ds : List D} {lo hi : Option Int} (h1 : HT.sIx ds.length 0 lo = 0) (h2 : HT.sIx ds.length ds.length hi = ds.length) : cutL ds lo hi = ds := by
  unfold cutL
  rw [h1, h2, List.drop_zero, Nat.sub_zero, List.take_length]
def rSlD (K : PySem.W.Frag) : V → Option Int → Option Int → Hp → VK → Prop := fun x lo hi H Q => ∃ W st d1 d, Rp K W H x d1 ∧ Holds K W H st ∧ slD d1 lo hi = some d ∧ ∀ v H', Same H H' → Rp K W H' v d → Q v H'
theorem sr_sl : SlR X (rSlD X.K) := by
  intro pins s σ H x v vl vu lo hi sl Q I rx hs pl pu h
  obtain ⟨W, st, d1, d, r1, iv, hf, k⟩ := h
  unfold slD at hf
  split at hf
  · cases hf
    cases r1 with
    | lst n1 s1 q1 => exact sl_list pins s σ H _ v vl vu lo hi sl Q I rx hs pl pu ⟨_, _, rfl, sq_l s1, fun p np => k _ _ (same_new np) (rp_lst iv np (rps_cut q1 lo hi))⟩
  · cases hf
    cases r1 with
    | tup s1 q1 =>
      refine sl_tupA pins s σ H _ v vl vu lo hi sl Q I rx hs pl pu ⟨_, _, rfl, sq_t s1, fun w => ?_, fun _ p np => k _ _ (same_new np) (rp_tup iv np (rps_cut q1 lo hi))⟩
      rw [cutL_whole (by rw [← q1.length]; exact w.1) (by rw [← q1.length]; exact w.2)] at k
      exact k _ _ (Same.refl _) (.tup s1 q1)
  · cases r1
    split at hf
    · cases hf
      exact sl_str pins s σ H _ v vl vu lo hi sl Q I rx hs pl pu ⟨_, rfl, big_line (by assumption), k _ _ (Same.refl _) (.str _)⟩
    · cases hf
  · cases hf
def slP (ta : EDen) (tl th : ODen) : EDen := fun Δ st => bd (ta Δ st) fun d st1 => bd (tl Δ st1) fun lo st2 => bd (th Δ st2) fun hi st3 => (slD d lo hi).map fun r => (.ok r, st3)
theorem de_sl {lo hi : Option Expr} {tl th : ODen} {p2 : Pos} (ha : PE X a (tD X.K E ta)) (hl : PO X lo (tOD X.K E tl)) (hh : PO X hi (tOD X.K E th)) : PE X (.Subscript a (.Slice lo hi none p2) pos) (tD X.K E (slP ta tl th)) := by
  refine imE (pe_slice sr_sl ha hl hh) fun σ H Q h => ?_
  obtain ⟨W, st0, h⟩ := h
  refine ⟨W, st0, h.seq.mono fun d st1 W1 H1 e1 i1 q v rv => ?_⟩
  refine ⟨W1, st1, q.2.seq.mono fun lo st2 W2 H2 e2 i2 q2 => ?_⟩
  refine ⟨W2, st2, q2.2.seq.mono fun hi st3 W3 H3 e3 i3 q3 => ?_⟩
  obtain ⟨Δ, r, L, I, e, k⟩ := q3.2.val (m := fun _ => slD d lo hi)
  exact ⟨W3, st3, d, r, (rv.to e2).to e3, I, e, fun v' H' e r => k W3 H' (Le.of e) (I.same e) v' r⟩
end
end Dn

set_option Elab.async false
set_option linter.all false
set_option maxRecDepth 100000
set_option maxHeartbeats 4000000
namespace Dn
open PySem PySem.Spec PyProof.Rows L2

/-! ### what a def promises: a function of the values and the state -/
abbrev FDen := List D → Sta → Mo D
def spF (K : PySem.W.Frag) (F : FDen) : Sp := fun vs H Q E => ∃ (W : Wd) (ds : List D) (st : Sta) (r : Except Exc D) (st' : Sta),
  Rps K W H vs ds ∧ Holds K W H st ∧ F ds st = some (r, st') ∧ Wnt K W E H (fun d _ W' H' => ∀ v, Rp K W' H' v d → Q v H') r st'
/-- a def that looks at the values alone -/
def purF (f : List D → Option (Except Exc D)) : FDen := fun ds st => (f ds).map fun r => (r, st)
/-- a def that gives a value, and raises nothing -/
def valF (f : List D → Option D) : FDen := fun ds st => (f ds).map fun r => (.ok r, st)
def outR : Except Exc Out → Option (Except Exc D)
  | .ok (.rt d) => some (.ok d)
  | .ok (.nx _) => some (.ok .non)
  | .error x => some (.error x)
  | _ => none
/-- a body run from its arguments -/
def runD (τ : SDen) (n : Nat) (ds : List D) (st : Sta) : Mo D :=
  (τ (ds.map some ++ List.replicate (n - ds.length) none) st).bind fun p => (outR p.1).map fun r => (r, p.2)
theorem start_loc {K : PySem.W.Frag} {W : Wd} {H : Hp} {vs : List V} {ds : List D} (r : Rps K W H vs ds) (N : List Str) : LocD K W H (L2.start N vs) (ds.map some ++ List.replicate (N.length - ds.length) none) := by
  unfold L2.start
  rw [r.length]
  refine ⟨by rw [List.length_append, List.length_append, List.length_map, List.length_map, List.length_replicate, List.length_replicate, r.length], fun i d e => ?_⟩
  by_cases hi : i < ds.length
  · rw [List.getElem?_append_left (by rw [List.length_map]; exact hi), List.getElem?_map] at e
    rw [List.getElem?_append_left (by rw [List.length_map, r.length]; exact hi), List.getElem?_map]
    cases q : ds[i]? with
    | none => rw [q] at e; cases e
    | some d' =>
      rw [q] at e
      cases e
      obtain ⟨v, h1, h2⟩ := r.get q
      exact ⟨v, by rw [h1]; rfl, h2⟩
  · rw [List.getElem?_append_right (by rw [List.length_map]; omega)] at e
    rw [List.getElem?_replicate] at e
    split at e <;> cases e
section
variable {P : Program} {w : World} {K : PySem.W.Frag} {mg : Str → Option Value} {base : Heap}
/-- THE RULE for a def -/
theorem fn_den {x qual : Str} {st : Stmt} {f : Addr} {fd : FuncData} {N ps : List Str} {k : Nat} {F : FDen} (τ : SDen) (G : Fun K x qual st f fd) (S : FnScope N ps (defScope st)) (hlen : ∀ ds st r, F ds st = some r → ds.length = ps.length)
    (hden : ∀ ds st p, F ds st = some p → runD τ N.length ds st = some p)
    (hbody : ∀ (cdv : Value) (A : Around) (outer : List Env) (s : Shared) (H : Hp) (E : XK), Room k (A.deeper (envOfC qual (defScope st) s.heap.objs.size f cdv)) →
      Passes (L2.CX P w) (cxOf (L2.CX P w) P w K mg base N qual (defScope st) f cdv A outer s H E) E →
      PassesOwn (model P w) (A.deeper (envOfC qual (defScope st) s.heap.objs.size f cdv)) (envOfC qual (defScope st) s.heap.objs.size f cdv) (cxOf (L2.CX P w) P w K mg base N qual (defScope st) f cdv A outer s H E).xe →
      PSs (cxOf (L2.CX P w) P w K mg base N qual (defScope st) f cdv A outer s H E) (defBody st) (tSD K E τ)) : FnOk P w K mg base (L2.CX P w) (k + 1) f fd ps (spF K F) := by
  refine G.okX S (fun vs H Q E h => ?_) (fun cdv A outer s H vs Q E hr h => ?_)
  · obtain ⟨W, ds, st, r, st', rs, iv, e, _⟩ := h
    rw [rs.length]
    exact hlen ds st _ e
  · obtain ⟨W, ds, st0, r, st', rs, iv, e, wn⟩ := h
    have hp : Passes (L2.CX P w) (cxOf (L2.CX P w) P w K mg base N qual (defScope st) f cdv A outer s H E) E := passes_call (takes_of rfl rfl rfl rfl) fun _ _ _ _ e => e
    refine ⟨tSD K E τ, hbody cdv A outer s H E hr hp (passes_of rfl), ?_⟩
    have q := hden ds st0 _ e
    unfold runD at q
    cases hm : τ (ds.map some ++ List.replicate (N.length - ds.length) none) st0 with
    | none => rw [hm] at q; cases q
    | some p =>
      obtain ⟨ro, st1⟩ := p
      rw [hm] at q
      simp only [Option.bind] at q
      refine ⟨W, st0, _, ro, st1, start_loc rs N, iv, hm, ?_⟩
      cases ro with
      | error z =>
        simp only [outR, Option.map] at q
        cases q
        exact wn
      | ok o =>
        cases o with
        | rt d =>
          simp only [outR, Option.map] at q
          cases q
          exact wn
        | nx Δ =>
          simp only [outR, Option.map] at q
          cases q
          exact fun W' H' e i σ' _ => wn W' H' e i .non .non
        | bk Δ => simp only [outR, Option.map] at q; cases q
        | ct Δ => simp only [outR, Option.map] at q; cases q
end

/-! ### calls -/
section
variable {X : Cx} {E : XK} {a : Expr} {es : List Expr} {tr : ADen} {pos p : Pos} {σ : L2.St} {H : Hp} {Q : VK} {x : Str}
def callP (f : FDen) (tr : ADen) : EDen := fun Δ st => bd (tr Δ st) f
theorem tD_call {F : FDen} {dvs : List V} {dd : List D} (rd : ∀ W H, Rps X.K W H dvs dd) (h : tD X.K E (callP (fun as st => F (as ++ dd) st) tr) σ H Q) : tCall (spF X.K F) dvs E (tAD X.K E tr) σ H Q := by
  obtain ⟨W, st0, h⟩ := h
  refine ⟨W, st0, (h.seq (k := fun as _ st => F (as ++ dd) st)).mono fun ds st1 W1 H1 e1 i1 q vs rs => ?_⟩
  obtain ⟨Δ, r, st', L, I, e, k⟩ := q.2
  exact ⟨W1, ds ++ dd, st1, r, st', rs.append (rd _ H1), I, e, k⟩
section
variable {f : Addr} {fd : FuncData} {ps : List Str} {F : FDen} {k : Nat} {ds : List Value} {dvs : List V} {dd : List D}
theorem de_call (G : FnOk X.prog X.w X.K X.mg X.base (L2.CX X.prog X.w) k f fd ps (spF X.K F)) (hr : Room k X.A) (hm : X.mg x = some (.ref f)) (hk : PySem.W.keepIn X.K (.ref f) = true) (hb : Binds X.K fd ps ds) (hd : Vals dvs ds) (rd : ∀ W H, Rps X.K W H dvs dd)
    (hx : Passes (L2.CX X.prog X.w) X E) (ha : PA X (a :: es) (tAD X.K E tr)) (hg : Gl X x := by rfl) (hdb : (x == ("__debug__" : Str)) = false := by decide) (he : starEach (a :: es) X.env = (false, eval a X.env) :: starEach es X.env := by rfl)
    (hpl : (backTo pos (starEach es X.env)).any (·.1) = false := by rfl) : PE X (.Call (.Name x p) (a :: es) [] pos) (tD X.K E (callP (fun as st => F (as ++ dd) st) tr)) :=
  imE (pe_call G hr hg hm hk hb hd hx ha hdb he hpl) fun _ _ _ h => tD_call rd h
/-- no defaults -/
theorem de_call' (G : FnOk X.prog X.w X.K X.mg X.base (L2.CX X.prog X.w) k f fd ps (spF X.K F)) (hr : Room k X.A) (hm : X.mg x = some (.ref f)) (hk : PySem.W.keepIn X.K (.ref f) = true) (hb : Binds X.K fd ps [])
    (hx : Passes (L2.CX X.prog X.w) X E) (ha : PA X (a :: es) (tAD X.K E tr)) (hg : Gl X x := by rfl) (hdb : (x == ("__debug__" : Str)) = false := by decide) (he : starEach (a :: es) X.env = (false, eval a X.env) :: starEach es X.env := by rfl)
    (hpl : (backTo pos (starEach es X.env)).any (·.1) = false := by rfl) : PE X (.Call (.Name x p) (a :: es) [] pos) (tD X.K E (callP F tr)) :=
  imE (pe_call G hr hg hm hk hb .nil hx ha hdb he hpl) fun σ H Q h => by
    have e : (fun as st => F (as ++ []) st) = F := by funext as st; rw [List.append_nil]
    exact tD_call (dd := []) (fun _ _ => .nil) (by rw [e]; exact h)
end
/-- a builtin called: a function of the values -/
def rCD (K : PySem.W.Frag) (f : List D → Option D) : List V → Hp → VK → Prop := fun vs H Q => ∃ W st ds d, Rps K W H vs ds ∧ Holds K W H st ∧ f ds = some d ∧ ∀ v H', Same H H' → Rp K W H' v d → Q v H'
def bltP (f : List D → Option D) (tr : ADen) : EDen := fun Δ st => bd (tr Δ st) fun ds st1 => (f ds).map fun d => (.ok d, st1)
theorem tD_blt {f : List D → Option D} (h : tD X.K E (bltP f tr) σ H Q) : tCB (rCD X.K f) (tAD X.K E tr) σ H Q := by
  obtain ⟨W, st0, h⟩ := h
  refine ⟨W, st0, h.seq.mono fun ds st1 W1 H1 e1 i1 q vs rs => ?_⟩
  obtain ⟨Δ, d, L, I, e, k⟩ := q.2.val (m := fun _ => f ds)
  exact ⟨W1, st1, ds, d, rs, I, e, fun v H' e' r => k W1 H' (Le.of e') (I.same e') v r⟩
theorem de_blt {id : String} {f : List D → Option D} (hc : CallR X (.builtin id) (rCD X.K f)) (hm : X.mg x = none) (hv : bootBuiltins x = some (.builtin id)) (ha : PA X (a :: es) (tAD X.K E tr)) (hg : Gl X x := by rfl) (hn : x ≠ "__name__" := by decide) (hdb : (x == ("__debug__" : Str)) = false := by decide)
    (he : starEach (a :: es) X.env = (false, eval a X.env) :: starEach es X.env := by rfl) (hpl : (backTo pos (starEach es X.env)).any (·.1) = false := by rfl) : PE X (.Call (.Name x p) (a :: es) [] pos) (tD X.K E (bltP f tr)) :=
  imE (pe_callB hc hg hm hv ha hn hdb he hpl) fun _ _ _ => tD_blt
theorem de_ty {T : String} {f : List D → Option D} (hc : CallR X (.type T) (rCD X.K f)) (hm : X.mg x = none) (hv : bootBuiltins x = some (.type T)) (ha : PA X (a :: es) (tAD X.K E tr)) (hg : Gl X x := by rfl) (hn : x ≠ "__name__" := by decide) (hdb : (x == ("__debug__" : Str)) = false := by decide)
    (he : starEach (a :: es) X.env = (false, eval a X.env) :: starEach es X.env := by rfl) (hpl : (backTo pos (starEach es X.env)).any (·.1) = false := by rfl) : PE X (.Call (.Name x p) (a :: es) [] pos) (tD X.K E (bltP f tr)) :=
  imE (pe_callTy hc hg hm hv ha hn hdb he hpl) fun _ _ _ => tD_blt

def lenF : List D → Option D
  | [.lst ds] => some (.int ds.length)
  | [.tup ds] => some (.int ds.length)
  | [.str z] => if z.length ≤ big then some (.int z.length) else none
  | _ => none
theorem rps1 {K : PySem.W.Frag} {W : Wd} {H : Hp} {vs : List V} {d : D} (r : Rps K W H vs [d]) : ∃ v, vs = [v] ∧ Rp K W H v d := by
  cases r with
  | cons h t => cases t; exact ⟨_, rfl, h⟩
theorem cr_len : CallR X (.builtin "len") (rCD X.K lenF) := by
  intro pins s σ H xs us Q I r h
  obtain ⟨W, st, ds, d, rs, iv, hf, k⟩ := h
  unfold lenF at hf
  split at hf
  · cases hf
    obtain ⟨v, rfl, rv⟩ := rps1 rs
    cases rv with
    | lst n1 s1 q1 => exact call_len_seq pins s σ H _ us Q I r ⟨_, _, rfl, .inl (sq_l s1), by rw [q1.length]; exact k _ _ (Same.refl _) (.int _)⟩
  · cases hf
    obtain ⟨v, rfl, rv⟩ := rps1 rs
    cases rv with
    | tup s1 q1 => exact call_len_seq pins s σ H _ us Q I r ⟨_, _, rfl, .inr (sq_t s1), by rw [q1.length]; exact k _ _ (Same.refl _) (.int _)⟩
  · split at hf
    · cases hf
      obtain ⟨v, rfl, rv⟩ := rps1 rs
      cases rv
      exact call_len_str pins s σ H _ us Q I r ⟨_, rfl, big_line (by assumption), k _ _ (Same.refl _) (.int _)⟩
    · cases hf
  · cases hf
def listF : List D → Option D
  | [.lst ds] => some (.lst ds)
  | [.tup ds] => some (.lst ds)
  | _ => none
theorem cr_list : CallR X (.type "list") (rCD X.K listF) := by
  intro pins s σ H xs us Q I r h
  obtain ⟨W, st, ds, d, rs, iv, hf, k⟩ := h
  unfold listF at hf
  split at hf
  · cases hf
    obtain ⟨v, rfl, rv⟩ := rps1 rs
    cases rv with
    | lst n1 s1 q1 => exact call_list_of pins s σ H _ us Q I r ⟨_, _, rfl, .inl (sq_l s1), fun p np => k _ _ (same_new np) (rp_lst iv np q1)⟩
  · cases hf
    obtain ⟨v, rfl, rv⟩ := rps1 rs
    cases rv with
    | tup s1 q1 => exact call_list_of pins s σ H _ us Q I r ⟨_, _, rfl, .inr (sq_t s1), fun p np => k _ _ (same_new np) (rp_lst iv np q1)⟩
  · cases hf
def tupleF : List D → Option D
  | [.lst ds] => some (.tup ds)
  | [.tup ds] => some (.tup ds)
  | _ => none
theorem cr_tuple : CallR X (.type "tuple") (rCD X.K tupleF) := by
  intro pins s σ H xs us Q I r h
  obtain ⟨W, st, ds, d, rs, iv, hf, k⟩ := h
  unfold tupleF at hf
  split at hf
  · cases hf
    obtain ⟨v, rfl, rv⟩ := rps1 rs
    cases rv with
    | lst n1 s1 q1 => exact call_tuple_of pins s σ H _ us Q I r ⟨_, _, rfl, .inl ⟨sq_l s1, fun p np => k _ _ (same_new np) (rp_tup iv np q1)⟩⟩
  · cases hf
    obtain ⟨v, rfl, rv⟩ := rps1 rs
    cases rv with
    | tup s1 q1 => exact call_tuple_of pins s σ H _ us Q I r ⟨_, _, rfl, .inr ⟨sq_t s1, k _ _ (Same.refl _) (.tup s1 q1)⟩⟩
  · cases hf
def intF : List D → Option D
  | [.int i] => some (.int i)
  | _ => none
theorem cr_int : CallR X (.type "int") (rCD X.K intF) := by
  intro pins s σ H xs us Q I r h
  obtain ⟨W, st, ds, d, rs, iv, hf, k⟩ := h
  unfold intF at hf
  split at hf
  · cases hf
    obtain ⟨v, rfl, rv⟩ := rps1 rs
    cases rv
    exact call_int1 pins s σ H _ us Q I r (.inl ⟨_, rfl, k _ _ (Same.refl _) (.int _)⟩)
  · cases hf
def strF : List D → Option D
  | [.int i] => if i.natAbs.log2 < 1920 then some (.str (toString i)) else none
  | _ => none
theorem cr_str : CallR X (.type "str") (rCD X.K strF) := by
  intro pins s σ H xs us Q I r h
  obtain ⟨W, st, ds, d, rs, iv, hf, k⟩ := h
  unfold strF at hf
  split at hf
  · split at hf
    · cases hf
      obtain ⟨v, rfl, rv⟩ := rps1 rs
      cases rv
      exact call_str_int pins s σ H _ us Q I r ⟨_, rfl, by assumption, k _ _ (Same.refl _) (.str _)⟩
    · cases hf
  · cases hf
def bls : List D → Option (List Bool)
  | [] => some []
  | .bl b :: ds => (bls ds).map fun r => b :: r
  | _ => none
theorem bls_of : ∀ {ds : List D} {bs : List Bool}, bls ds = some bs → ds = bs.map D.bl
  | [], bs, h => by cases h; rfl
  | d :: ds, bs, h => by
    cases d with
    | bl b =>
      simp only [bls] at h
      cases e : bls ds with
      | none => rw [e] at h; cases h
      | some r => rw [e] at h; cases h; rw [bls_of e]; rfl
    | _ => simp only [bls] at h; cases h
def intsD : List D → Option (List Int)
  | [] => some []
  | .int b :: ds => (intsD ds).map fun r => b :: r
  | _ => none
theorem intsD_of : ∀ {ds : List D} {bs : List Int}, intsD ds = some bs → ds = bs.map D.int
  | [], bs, h => by cases h; rfl
  | d :: ds, bs, h => by
    cases d with
    | int b =>
      simp only [intsD] at h
      cases e : intsD ds with
      | none => rw [e] at h; cases h
      | some r => rw [e] at h; cases h; rw [intsD_of e]; rfl
    | _ => simp only [intsD] at h; cases h
def strsD : List D → Option (List Str)
  | [] => some []
  | .str b :: ds => (strsD ds).map fun r => b :: r
  | _ => none
theorem strsD_of : ∀ {ds : List D} {bs : List Str}, strsD ds = some bs → ds = bs.map D.str
  | [], bs, h => by cases h; rfl
  | d :: ds, bs, h => by
    cases d with
    | str b =>
      simp only [strsD] at h
      cases e : strsD ds with
      | none => rw [e] at h; cases h
      | some r => rw [e] at h; cases h; rw [strsD_of e]; rfl
    | _ => simp only [strsD] at h; cases h
def allF : List D → Option D
  | [.lst ds] => (bls ds).map fun bs => .bl (bs.all id)
  | _ => none
def anyF : List D → Option D
  | [.lst ds] => (bls ds).map fun bs => .bl (bs.any id)
  | _ => none
def sumF : List D → Option D
  | [.lst ds] => (intsD ds).map fun ns => .int ns.sum
  | _ => none
theorem cr_all (hc : X.calm = true) : CallR X (.builtin "all") (rCD X.K allF) := by
  intro pins s σ H xs us Q I r h
  obtain ⟨W, st, ds, d, rs, iv, hf, k⟩ := h
  unfold allF at hf
  split at hf
  · rename_i ds
    cases e : bls ds with
    | none => rw [e] at hf; cases hf
    | some bs =>
      rw [e] at hf
      cases hf
      obtain ⟨v, rfl, rv⟩ := rps1 rs
      cases rv with
      | lst n1 s1 q1 =>
        rw [bls_of e] at q1
        rw [q1.bls] at s1
        exact L2.cr_all hc pins s σ H _ us Q I r ⟨_, bs, rfl, sq_l s1, k _ _ (Same.refl _) (.bl _)⟩
  · cases hf
theorem cr_any (hc : X.calm = true) : CallR X (.builtin "any") (rCD X.K anyF) := by
  intro pins s σ H xs us Q I r h
  obtain ⟨W, st, ds, d, rs, iv, hf, k⟩ := h
  unfold anyF at hf
  split at hf
  · rename_i ds
    cases e : bls ds with
    | none => rw [e] at hf; cases hf
    | some bs =>
      rw [e] at hf
      cases hf
      obtain ⟨v, rfl, rv⟩ := rps1 rs
      cases rv with
      | lst n1 s1 q1 =>
        rw [bls_of e] at q1
        rw [q1.bls] at s1
        exact L2.cr_any hc pins s σ H _ us Q I r ⟨_, bs, rfl, sq_l s1, k _ _ (Same.refl _) (.bl _)⟩
  · cases hf
theorem cr_sum (hc : X.calm = true) : CallR X (.builtin "sum") (rCD X.K sumF) := by
  intro pins s σ H xs us Q I r h
  obtain ⟨W, st, ds, d, rs, iv, hf, k⟩ := h
  unfold sumF at hf
  split at hf
  · rename_i ds
    cases e : intsD ds with
    | none => rw [e] at hf; cases hf
    | some bs =>
      rw [e] at hf
      cases hf
      obtain ⟨v, rfl, rv⟩ := rps1 rs
      cases rv with
      | lst n1 s1 q1 =>
        rw [intsD_of e] at q1
        rw [q1.ints] at s1
        exact L2.cr_sum hc pins s σ H _ us Q I r ⟨_, bs, rfl, sq_l s1, k _ _ (Same.refl _) (.int _)⟩
  · cases hf

/-! ### isinstance -/
inductive Ty where
  | bl | int | str | lst | tup
  deriving DecidableEq
def Ty.name : Ty → String
  | .bl => "bool" | .int => "int" | .str => "str" | .lst => "list" | .tup => "tuple"
def isTy : D → Ty → Option Bool
  | .non, _ => some false
  | .bl _, .bl => some true
  | .bl _, .int => some true
  | .bl _, _ => some false
  | .int _, .int => some true
  | .int _, _ => some false
  | .str _, .str => some true
  | .str _, _ => some false
  | .lst _, .lst => some true
  | .lst _, _ => some false
  | .tup _, .tup => some true
  | .tup _, _ => some false
  | _, _ => none
def isTys (d : D) : List Ty → Option Bool
  | [] => some false
  | t :: ts => (isTy d t).bind fun b => if b = true then some true else isTys d ts
theorem isTy_kit {K : PySem.W.Frag} {W : Wd} {H : Hp} {v : V} {d : D} (r : Rp K W H v d) (t0 : Ty) {b0 : Bool} (h0 : isTy d t0 = some b0) : ∃ u : Value, TyX K H v u ∧ ∀ (t : Ty) (b : Bool), isTy d t = some b → PySem.W.kitOne K u (.type t.name) = some b := by
  cases r with
  | non => exact ⟨_, .base .non, fun t b h => by cases t <;> cases h <;> exact kit_ty (by decide +kernel)⟩
  | bl x => exact ⟨_, .base (.bl x), fun t b h => by cases t <;> cases h <;> exact kit_ty (by decide +kernel)⟩
  | int x => exact ⟨_, .base (.int x), fun t b h => by cases t <;> cases h <;> exact kit_ty (by decide +kernel)⟩
  | str x => exact ⟨_, .base (.str x), fun t b h => by cases t <;> cases h <;> exact kit_ty (by decide +kernel)⟩
  | lst n s q => exact ⟨_, .base (.lst s), fun t b h => by cases t <;> cases h <;> exact kit_ty (by decide +kernel)⟩
  | tup s q =>
    refine ⟨.type "tuple", ?_, fun t b h => by cases t <;> cases h <;> exact kit_ty (by decide +kernel)⟩
    rcases s with ⟨_, s | ⟨o, s⟩⟩ | ⟨o, its, n, h1, h2, _⟩
    · exact .base (.tup s)
    · exact .fTuple s
    · exact .kTuple h1 h2
  | ftp _ _ _ _ => cases t0 <;> cases h0
  | obj _ _ _ _ => cases t0 <;> cases h0
  | opq _ => cases t0 <;> cases h0
  | hnd _ _ => cases t0 <;> cases h0
def isiP (t : Ty) (ta : EDen) : EDen := fun Δ st => bd (ta Δ st) fun d st1 => (isTy d t).map fun b => (.ok (.bl b), st1)
def isisP (ts : List Ty) (ta : EDen) : EDen := fun Δ st => bd (ta Δ st) fun d st1 => (isTys d ts).map fun b => (.ok (.bl b), st1)
variable {ta : EDen} {b : Expr} {y : Str} {p1 p2 : Pos}
theorem de_isi (t : Ty) (hm : X.mg "isinstance" = none) (hm2 : X.mg y = none) (hv : bootBuiltins y = some (.type t.name)) (ha : PE X a (tD X.K E ta)) (hg : Gl X "isinstance" := by rfl) (hg2 : Gl X y := by rfl) (hn : y ≠ "__name__" := by decide) (hdb : (y == ("__debug__" : Str)) = false := by decide)
    (hs : starEach (a :: [.Name y p2]) X.env = (false, eval a X.env) :: starEach [.Name y p2] X.env := by rfl) (hpl : (backTo pos (starEach [.Name y p2] X.env)).any (·.1) = false := by rfl) (hs2 : starEach ([.Name y p2]) X.env = (false, eval (.Name y p2) X.env) :: starEach [] X.env := by rfl) :
    PE X (.Call (.Name "isinstance" p) [a, .Name y p2] [] pos) (tD X.K E (isiP t ta)) := by
  refine imE (pe_callB call_isi hg hm (by decide +kernel) (pa_cons ha (pa_cons (pe_bltn hg2 hm2 hv (show RelV (.ty t.name) _ from rfl) hn hdb) pa_nil hs2) hs) (by decide) (by decide) hs hpl) fun σ H Q h => ?_
  obtain ⟨W, st0, h⟩ := h
  refine ⟨W, st0, h.seq.mono fun d st1 W1 H1 e1 i1 q v rv => ?_⟩
  obtain ⟨Δ, r, st', L, I, e, k⟩ := q.2
  simp only at e
  cases q0 : isTy d t with
  | none => rw [q0] at e; cases e
  | some b0 =>
    rw [q0] at e
    cases e
    obtain ⟨u, hu, hk⟩ := isTy_kit rv t q0
    exact ⟨v, .ty t.name, u, .type t.name, b0, rfl, .ty _, hu, hk t b0 q0, k W1 H1 (Le.refl _ _) I _ (.bl _)⟩
end
end Dn

set_option Elab.async false
set_option linter.all false
set_option maxRecDepth 100000
set_option maxHeartbeats 4000000
namespace Dn
open PySem PySem.Spec PyProof.Rows L2

/-! ### targets: one name, or a tuple of names -/
def setAll {α : Type} : List (Option α) → List Nat → List α → List (Option α)
  | σ, i :: is, v :: vs => setAll (σ.set i (some v)) is vs
  | σ, _, _ => σ
inductive Tgt where
  | one (i : Nat) | tup (is : List Nat)
def Tgt.slots : Tgt → List Nat
  | .one i => [i]
  | .tup is => is
def Tgt.put (t : Tgt) (d : D) (Δ : Dl) : Option Dl := match t with
  | .one i => some (Δ.set i (some d))
  | .tup is => match d with
    | .tup ds => if ds.length = is.length then some (setAll Δ is ds) else none
    | _ => none
def gNames : List Nat → TGs
  | [] => gNil
  | i :: is => gCons (gName i) (gNames is)
def Tgt.g (K : PySem.W.Frag) : Tgt → TG
  | .one i => gName i
  | .tup is => gTup K is.length (gNames is)
theorem gNames_of : ∀ (is : List Nat) (vs : List V) (σ : L2.St) (H : Hp) (Q : L2.St → Hp → Prop), vs.length = is.length → Q (setAll σ is vs) H → gNames is vs σ H Q
  | [], [], _, _, _, _, q => ⟨rfl, q⟩
  | i :: is, v :: vs, σ, H, Q, h, q => ⟨v, vs, rfl, gNames_of is vs _ H Q (by simpa using h) q⟩
theorem setAll_length {α : Type} : ∀ (σ : List (Option α)) (is : List Nat) (vs : List α), (setAll σ is vs).length = σ.length
  | σ, [], _ => rfl
  | σ, _ :: _, [] => rfl
  | σ, i :: is, v :: vs => by
    show (setAll (σ.set i (some v)) is vs).length = σ.length
    rw [setAll_length, List.length_set]
theorem setAll_other {α : Type} : ∀ (σ : List (Option α)) (is : List Nat) (vs : List α) (j : Nat), j ∉ is → (setAll σ is vs)[j]? = σ[j]?
  | σ, [], _, _, _ => rfl
  | σ, _ :: _, [], _, _ => rfl
  | σ, i :: is, v :: vs, j, h => by
    show (setAll (σ.set i (some v)) is vs)[j]? = σ[j]?
    rw [setAll_other _ is vs j fun z => h (List.mem_cons_of_mem _ z), List.getElem?_set_ne fun e => h (by rw [e]; exact List.mem_cons_self ..)]
section
variable {K : PySem.W.Frag} {W : Wd} {H : Hp}
theorem LocD.setAll : ∀ (is : List Nat) {σ : L2.St} {Δ : Dl} {vs : List V} {ds : List D}, LocD K W H σ Δ → Rps K W H vs ds → LocD K W H (Dn.setAll σ is vs) (Dn.setAll Δ is ds)
  | [], _, _, _, _, h, _ => h
  | i :: is, _, _, [], _, h, .nil => h
  | i :: is, _, _, _ :: _, _, h, .cons r t => LocD.setAll is (h.set r) t
theorem put_ok (t : Tgt) {σ : L2.St} {Δ Δ' : Dl} {v : V} {d : D} {Q : L2.St → Hp → Prop} (L : LocD K W H σ Δ) (r : Rp K W H v d) (e : t.put d Δ = some Δ')
    (q : ∀ σ', LocD K W H σ' Δ' → σ'.length = σ.length → (∀ j, j ∉ t.slots → σ'[j]? = σ[j]?) → Q σ' H) : t.g K v σ H Q := by
  cases t with
  | one i =>
    cases e
    refine q _ (L.set r) (by rw [List.length_set]) fun j hj => ?_
    rw [List.getElem?_set_ne fun e => hj (by rw [e]; exact List.mem_cons_self ..)]
  | tup is =>
    cases r with
    | tup s rs =>
      simp only [Tgt.put] at e
      split at e
      · rename_i hl
        cases e
        refine ⟨_, _, rfl, sq_t s, by rw [rs.length, hl], gNames_of is _ σ H Q (by rw [rs.length, hl]) (q _ (LocD.setAll is L rs) (setAll_length ..) fun j hj => setAll_other _ _ _ _ hj)⟩
      · cases e
    | _ => cases e
end

/-! ### what is walked -/
structure WalkD (K : PySem.W.Frag) (W : Wd) (J : It) (ds : List D) (H1 : Hp) : Prop where
  ex : ∃ (G : Hp → Prop) (Y : Nat → Hp → V → Hp → Prop), Walk J ds.length G Y ∧ (∀ W2 H, Lw W H1 W2 H → G H) ∧
    ∀ i W2 H st x H' d, Lw W H1 W2 H → Holds K W2 H st → ds[i]? = some d → Y i H x H' → Same H H' ∧ Rp K W2 H' x d
abbrev IDen := Den (List D)
def tI (K : PySem.W.Frag) (E : XK) (τ : IDen) : TI := fun σ H R => tG K E τ σ H fun ds _ W1 H1 => ∀ J, WalkD K W1 J ds H1 → R J H1
def itemsD : D → Option (List D)
  | .lst ds => some ds
  | .tup ds => some ds
  | .str z => some (z.cps.toList.map fun c => .str ⟨#[c]⟩)
  | _ => none
def itP (ta : EDen) : IDen := fun Δ st => bd (ta Δ st) fun d st1 => (itemsD d).map fun ds => (.ok ds, st1)
def yStr (z : Str) : Nat → Hp → V → Hp → Prop := fun i H v H' => H' = H ∧ ∃ c, z.cps[i]? = some c ∧ v = .str ⟨#[c]⟩
section
variable {X : Cx} {E : XK} {a : Expr} {ta : EDen} {tg : Expr} {pos p : Pos}
theorem di_seq (ha : PE X a (tD X.K E ta)) : PI X tg a (tI X.K E (itP ta)) := by
  refine ⟨fun pins s σ H R I h => ?_⟩
  obtain ⟨W, st, Δ, r, st', L, iv, e, k⟩ := h
  unfold itP bd at e
  cases hm : ta Δ st with
  | none => rw [hm] at e; cases e
  | some q =>
    obtain ⟨rr, st1⟩ := q
    rw [hm] at e
    cases rr with
    | error x =>
      simp only at e
      cases e
      exact (pi_list ha).run pins s σ H R I ⟨W, st, Δ, .error x, _, L, iv, hm, k⟩
    | ok d =>
      simp only at e
      cases d with
      | lst ds =>
        simp only [itemsD, Option.map] at e
        cases e
        refine (pi_list ha).run pins s σ H R I ⟨W, st, Δ, _, _, L, iv, hm, fun W1 H1 e1 i1 v rv => ?_⟩
        cases rv with
        | @lst a xs _ n1 s1 q1 =>
          refine ⟨_, rfl, ⟨_, sq_l s1⟩, k W1 H1 e1 i1 _ ⟨fun H => H a = some (.lst xs), YAt xs, ?_, fun W2 H e2 => e2.ext _ _ n1 s1, fun i W2 H st2 x H' d e2 _ hd y => ?_⟩⟩
          · have wl := walk_list (K := X.K) (a := a) (xs := xs)
            rw [q1.length] at wl
            exact wl.mono (fun H h => sq_l h) fun _ _ _ _ _ _ y => y
          · obtain ⟨rfl, y⟩ := y
            obtain ⟨d', h1, h2⟩ := q1.get' y
            rw [h1] at hd
            cases hd
            exact ⟨Same.refl _, h2.tow e2⟩
      | tup ds =>
        simp only [itemsD, Option.map] at e
        cases e
        refine (pi_tup ha).run pins s σ H R I ⟨W, st, Δ, _, _, L, iv, hm, fun W1 H1 e1 i1 v rv => ?_⟩
        cases rv with
        | @tup a xs _ s1 q1 =>
          refine ⟨_, rfl, ⟨_, sq_t s1⟩, k W1 H1 e1 i1 _ ⟨fun H => SqT X.K H a xs, YAt xs, ?_, fun W2 H e2 => ?_, fun i W2 H st2 x H' d e2 _ hd y => ?_⟩⟩
          · have wl := walk_tup (K := X.K) (a := a) (xs := xs)
            rw [q1.length] at wl
            exact wl
          · rcases s1 with ⟨n1, s1⟩ | s1
            · rcases s1 with s1 | ⟨o, s1⟩
              · exact .inl (.inl (e2.ext _ _ n1 s1))
              · exact .inl (.inr ⟨o, e2.ext _ _ n1 s1⟩)
            · exact .inr s1
          · obtain ⟨rfl, y⟩ := y
            obtain ⟨d', h1, h2⟩ := q1.get' y
            rw [h1] at hd
            cases hd
            exact ⟨Same.refl _, h2.tow e2⟩
      | str z =>
        simp only [itemsD, Option.map] at e
        cases e
        refine (pi_str ha).run pins s σ H R I ⟨W, st, Δ, _, _, L, iv, hm, fun W1 H1 e1 i1 v rv => ?_⟩
        cases rv
        refine ⟨z, rfl, k W1 H1 e1 i1 _ ⟨fun _ => True, yStr z, ?_, fun _ _ _ => trivial, fun i W2 H st2 x H' d e2 _ hd y => ?_⟩⟩
        · have wl := walk_str (z := z)
          rw [show z.cps.size = (z.cps.toList.map fun c => D.str ⟨#[c]⟩).length by simp] at wl
          exact wl
        · obtain ⟨rfl, c, hc, rfl⟩ := y
          rw [List.getElem?_map] at hd
          have : z.cps.toList[i]? = some c := by simpa using hc
          rw [this] at hd
          cases hd
          exact ⟨Same.refl _, .str _⟩
      | _ => simp only [itemsD, Option.map] at e; cases e
/-- lo, lo + 1, .. below hi -/
def rngD (lo hi : Int) : List D := (List.range (hi - lo).toNat).map fun i => .int (lo + (i : Nat))
def mil : Int := 1000000
def rng1F : List D → Option (List D)
  | [.int j] => if -mil ≤ j ∧ j ≤ mil then some (rngD 0 j) else none
  | _ => none
def rng2F : List D → Option (List D)
  | [.int i, .int j] => if -mil ≤ i ∧ i ≤ mil ∧ -mil ≤ j ∧ j ≤ mil then some (rngD i j) else none
  | _ => none
def rng1P (tr : ADen) : IDen := fun Δ st => bd (tr Δ st) fun ds st1 => (rng1F ds).map fun r => (.ok r, st1)
def rng2P (tr : ADen) : IDen := fun Δ st => bd (tr Δ st) fun ds st1 => (rng2F ds).map fun r => (.ok r, st1)
theorem walkD_range {W : Wd} {lo hi : Int} {H1 : Hp} : WalkD X.K W (Itr lo (hi - lo).toNat) (rngD lo hi) H1 := by
  refine ⟨fun _ => True, YFn fun i => .int (lo + i), ?_, fun _ _ _ => trivial, fun i W2 H st x H' d e1 iv hd y => ?_⟩
  · have e : (rngD lo hi).length = (hi - lo).toNat := by unfold rngD; rw [List.length_map, List.length_range]
    rw [e]
    exact walk_range
  · obtain ⟨rfl, rfl⟩ := y
    unfold rngD at hd
    rw [List.getElem?_map] at hd
    cases q : (List.range (hi - lo).toNat)[i]? with
    | none => rw [q] at hd; cases hd
    | some j =>
      rw [q] at hd
      cases hd
      obtain ⟨_, rfl⟩ := List.getElem?_eq_some_iff.mp q
      rw [List.getElem_range]
      exact ⟨Same.refl _, .int _⟩
theorem di_range1 {tr : ADen} (hm : X.mg "range" = none) (ha : PA X [a] (tAD X.K E tr)) (hg : Gl X "range" := by rfl) (hs : starEach [a] X.env = [(false, eval a X.env)] := by rfl) : PI X tg (.Call (.Name "range" p) [a] [] pos) (tI X.K E (rng1P tr)) := by
  refine ⟨fun pins s σ H R I h => (pi_range1 hg hm ha hs).run pins s σ H R I ?_⟩
  obtain ⟨W, st, h⟩ := h
  refine ⟨W, st, h.seq.mono fun ds st1 W1 H1 e1 i1 q vs rs => ?_⟩
  obtain ⟨Δ, r, L, iv, e, k⟩ := q.2.val (m := fun _ => rng1F ds)
  unfold rng1F at e
  split at e
  · split at e
    · rename_i j hj
      cases e
      obtain ⟨v, rfl, rv⟩ := rps1 rs
      cases rv
      unfold mil at hj
      have wk := walkD_range (X := X) (W := W1) (lo := 0) (hi := j) (H1 := H1)
      rw [Int.sub_zero] at wk
      exact ⟨j, rfl, by omega, by omega, k W1 H1 (Le.refl _ _) iv _ wk⟩
    · cases e
  · cases e
theorem rps2 {K : PySem.W.Frag} {W : Wd} {H : Hp} {vs : List V} {d d' : D} (r : Rps K W H vs [d, d']) : ∃ v v', vs = [v, v'] ∧ Rp K W H v d ∧ Rp K W H v' d' := by
  cases r with
  | cons h t =>
    obtain ⟨v', rfl, r'⟩ := rps1 t
    exact ⟨_, _, rfl, h, r'⟩
theorem di_range2 {b : Expr} {tr : ADen} (hm : X.mg "range" = none) (ha : PA X [a, b] (tAD X.K E tr)) (hg : Gl X "range" := by rfl) (hs : starEach [a, b] X.env = [(false, eval a X.env), (false, eval b X.env)] := by rfl) (hs2 : starEach [b] X.env = [(false, eval b X.env)] := by rfl) :
    PI X tg (.Call (.Name "range" p) [a, b] [] pos) (tI X.K E (rng2P tr)) := by
  refine ⟨fun pins s σ H R I h => (pi_range2 hg hm ha hs hs2).run pins s σ H R I ?_⟩
  obtain ⟨W, st, h⟩ := h
  refine ⟨W, st, h.seq.mono fun ds st1 W1 H1 e1 i1 q vs rs => ?_⟩
  obtain ⟨Δ, r, L, iv, e, k⟩ := q.2.val (m := fun _ => rng2F ds)
  unfold rng2F at e
  split at e
  · split at e
    · rename_i i j hj
      cases e
      obtain ⟨v, v', rfl, rv, rv'⟩ := rps2 rs
      cases rv
      cases rv'
      unfold mil at hj
      exact ⟨i, j, rfl, by omega, k W1 H1 (Le.refl _ _) iv _ walkD_range⟩
    · cases e
  · cases e
end

/-! ### list comprehensions -/
def wipeD (Δ : Dl) : List Nat → Dl
  | [] => Δ
  | v :: vs => (wipeD Δ vs).set v none
theorem wipe_get (σ : L2.St) : ∀ (vs : List Nat) (j : Nat), (wipe σ vs)[j]? = if j ∈ vs then (if j < σ.length then some none else none) else σ[j]?
  | [], j => by simp [wipe]
  | v :: vs, j => by
    unfold wipe
    rw [List.getElem?_set, wipe_length, wipe_get σ vs j]
    by_cases h : v = j
    · subst h
      simp
    · have : (j ∈ v :: vs) ↔ j ∈ vs := by simp [fun e => h (Eq.symm e), Ne.symm h]
      simp [h, this]
theorem wipe_same {σ σ2 : L2.St} {vs is : List Nat} (hl : σ2.length = (wipe σ vs).length) (ho : ∀ j, j ∉ is → σ2[j]? = (wipe σ vs)[j]?) (hs : ∀ i ∈ is, i ∈ vs) : wipe σ2 vs = wipe σ vs := by
  apply List.ext_getElem?
  intro j
  rw [wipe_length] at hl
  rw [wipe_get σ2, wipe_get σ]
  by_cases h : j ∈ vs
  · simp [h, hl]
  · have q := ho j fun z => h (hs j z)
    rw [wipe_get] at q
    simp only [h, if_false] at q ⊢
    exact q
section
variable {K : PySem.W.Frag} {W : Wd} {H : Hp}
theorem wipeD_length (Δ : Dl) : ∀ vs : List Nat, (wipeD Δ vs).length = Δ.length
  | [] => rfl
  | v :: vs => by unfold wipeD; rw [List.length_set, wipeD_length Δ vs]
theorem wipeD_get (Δ : Dl) : ∀ (vs : List Nat) (j : Nat), (wipeD Δ vs)[j]? = if j ∈ vs then (if j < Δ.length then some none else none) else Δ[j]?
  | [], j => by simp [wipeD]
  | v :: vs, j => by
    unfold wipeD
    rw [List.getElem?_set, wipeD_length, wipeD_get Δ vs j]
    by_cases h : v = j
    · subst h
      simp
    · have : (j ∈ v :: vs) ↔ j ∈ vs := by simp [fun e => h (Eq.symm e), Ne.symm h]
      simp [h, this]
theorem LocD.wipe {σ : L2.St} {Δ : Dl} (L : LocD K W H σ Δ) (vs : List Nat) : LocD K W H (L2.wipe σ vs) (wipeD Δ vs) := by
  refine ⟨by rw [wipe_length, wipeD_length]; exact L.1, fun i d e => ?_⟩
  rw [wipeD_get] at e
  split at e
  · split at e <;> cases e
  · rename_i h
    obtain ⟨v, h1, h2⟩ := L.2 i d e
    exact ⟨v, by rw [wipe_get]; simp only [h, if_false]; exact h1, h2⟩
end
def lcGo (t : Tgt) (tt : TDen) (te : EDen) (Δ : Dl) : List D → Sta → List D → Mo D
  | [], st, acc => some (.ok (.lst acc), st)
  | d :: ds, st, acc => (t.put d Δ).bind fun Δ1 => match tt Δ1 st with
    | some (.ok true, st1) => (match te Δ1 st1 with
      | some (.ok y, st2) => if acc.length < big then lcGo t tt te Δ ds st2 (acc ++ [y]) else none
      | _ => none)
    | some (.ok false, st1) => lcGo t tt te Δ ds st1 acc
    | _ => none
def lcP (ti : IDen) (t : Tgt) (tt : TDen) (te : EDen) (vs : List Nat) : EDen := fun Δ st => bd (ti Δ st) fun ds st1 => lcGo t tt te (wipeD Δ vs) ds st1 []
def yesT : TDen := fun _ st => some (.ok true, st)
section
variable {X : Cx} {E : XK} {σ : L2.St} {H : Hp} {Q : VK}
theorem dts_nil : PTs X [] (tTD X.K E yesT) := imPTs pts_nil fun σ H Q h => by
  obtain ⟨W, st, h⟩ := h
  exact h.ret fun _ => rfl
theorem tD_lc {ti : IDen} {t : Tgt} {tt : TDen} {te : EDen} {vs : List Nat} (hs : ∀ i ∈ t.slots, i ∈ vs) (h : tD X.K E (lcP ti t tt te vs) σ H Q) : tLc (tI X.K E ti) (t.g X.K) (tTD X.K E0 tt) (tD X.K E0 te) vs σ H Q := by
  obtain ⟨W0, st0, Δ0, r0, st0', L0, iv0, e0, k0⟩ := h
  unfold lcP bd at e0
  cases hm : ti Δ0 st0 with
  | none => rw [hm] at e0; cases e0
  | some p =>
  obtain ⟨rr, st1⟩ := p
  rw [hm] at e0
  cases rr with
  | error x =>
    simp only at e0
    cases e0
    exact ⟨W0, st0, Δ0, .error x, _, L0, iv0, hm, k0⟩
  | ok ds =>
    simp only at e0
    refine ⟨W0, st0, Δ0, .ok ds, st1, L0, iv0, hm, fun W1 H1 e1 i1 J wk D nD => ?_⟩
    obtain ⟨G, Y, w, hG, hY⟩ := wk.ex
    have Lw : LocD X.K W1 H1 (L2.wipe σ vs) (wipeD Δ0 vs) := (L0.to e1).wipe vs
    have nMD : ¬ W1.M D := fun m => i1.there D (W1.sub _ m) nD
    refine lc_it w (fun i H2 => ∃ W2 st acc vacc, Le W1 H1 W2 H2 ∧ W2.N D ∧ ¬ W2.M D ∧ Holds X.K W2 H2 st ∧ H2 D = some (.lst vacc) ∧ Rps X.K W2 H2 vacc acc ∧ lcGo t tt te (wipeD Δ0 vs) (ds.drop i) st acc = some (r0, st0')) ?_ (fun i H2 _ hp => ?_) (fun i x H2 H3 hi hp hy => ?_) (fun H2 hp => ?_)
    · exact ⟨W1.addN D, st1, [], [], le_addN nD, .inr rfl, nMD, i1.addN nD, upd_same, .nil, by rw [List.drop_zero]; exact e0⟩
    · obtain ⟨W2, _, _, _, e2, _⟩ := hp
      exact hG W2 H2 e2.w
    · obtain ⟨W2, st, acc, vacc, e2, hN, hM, i2, hD, ra, eg⟩ := hp
      have hd : ds[i]? = some ds[i] := List.getElem?_eq_getElem hi
      obtain ⟨sm, rx⟩ := hY i W2 H2 st x H3 ds[i] e2.w i2 hd hy
      have e3 : Le W1 H1 W2 H3 := e2.trans (Le.of sm)
      have i3 := i2.same sm
      rw [List.drop_eq_getElem_cons hi] at eg
      simp only [lcGo] at eg
      cases hp2 : t.put ds[i] (wipeD Δ0 vs) with
      | none => rw [hp2] at eg; cases eg
      | some Δ1 =>
        rw [hp2] at eg
        simp only [Option.bind] at eg
        refine put_ok t (Lw.to e3) rx hp2 fun σ2 L2' hlen hoth => ⟨wipe_same hlen hoth hs, ?_⟩
        cases ht : tt Δ1 st with
        | none => rw [ht] at eg; cases eg
        | some q =>
          obtain ⟨rb, st2⟩ := q
          rw [ht] at eg
          cases rb with
          | error z => cases eg
          | ok b =>
            refine ⟨W2, st, Δ1, .ok b, st2, L2', i3, ht, fun W4 H4 e4 i4 => ?_⟩
            have hD4 : H4 D = some (.lst vacc) := e4.ext _ _ hM (sm _ _ hD)
            have ra4 := (ra.to (Le.of sm)).to e4
            have hN4 : W4.N D := e4.keep D hN
            have hM4 : ¬ W4.M D := fun z => by
              rcases e4.newM D z with z | z
              · exact hM z
              · rw [sm _ _ hD] at z; cases z
            cases b with
            | false => exact iteF ⟨W4, st2, acc, vacc, e3.trans e4, hN4, hM4, i4, hD4, ra4, eg⟩
            | true =>
              refine iteT ?_
              simp only at eg
              cases hte : te Δ1 st2 with
              | none => rw [hte] at eg; cases eg
              | some q2 =>
                obtain ⟨ry, st3⟩ := q2
                rw [hte] at eg
                cases ry with
                | error z => cases eg
                | ok y =>
                  simp only at eg
                  split at eg
                  · rename_i hb
                    refine ⟨W4, st2, Δ1, .ok y, st3, L2'.to e4, i4, hte, fun W5 H5 e5 i5 v rv => ?_⟩
                    have hD5 : H5 D = some (.lst vacc) := e5.ext _ _ hM4 hD4
                    have hN5 : W5.N D := e5.keep D hN4
                    have hM5 : ¬ W5.M D := fun z => by
                      rcases e5.newM D z with z | z
                      · exact hM4 z
                      · rw [hD4] at z; cases z
                    have e6 := (e3.trans e4).trans e5
                    refine ⟨vacc, hD5, by rw [ra4.length]; exact Nat.lt_of_lt_of_le hb (by decide), W5, st3, acc ++ [y], vacc ++ [v], ⟨fun a o n h => ?_, e6.newM, e6.newN, e6.keep, e6.hh, e6.newH, fun a h z => ?_⟩, hN5, hM5, i5.off hN5 hM5, upd_same, ?_, eg⟩
                    · rw [upd_ne (ne_of_none h nD)]
                      exact e6.ext a o n h
                    · by_cases hp : a = D
                      · subst hp; rw [upd_same] at z; cases z
                      · rw [upd_ne hp] at z; exact e6.stay a h z
                    · exact ((ra4.to e5).append (.cons rv .nil)).tow (lw_upd hN5)
                  · cases eg
    · obtain ⟨W2, st, acc, vacc, e2, hN, hM, i2, hD, ra, eg⟩ := hp
      rw [List.drop_length] at eg
      simp only [lcGo] at eg
      cases eg
      exact k0 (W2.delN D hM) H2 (e1.trans (e2.delN fun z => i1.there D z nD)) i2.delN _ (.lst (fun z => z.2 rfl) hD (ra.tow lw_delN))
theorem de_lc {elt iter : Expr} {ifs : List Expr} {scope : Scope} (t : Tgt) (own : List (Str × Nat)) {pos : Pos} {tg : Expr} {ti : IDen} {tt : TDen} {te : EDen} (hc : X.calm = true) (hN : X.N.Nodup) (hs : ∀ i ∈ t.slots, i ∈ own.map (·.2)) (hi : PI X tg iter (tI X.K E ti)) (ok : BlkOk X.N X.env.scope scope own)
    (hg : ∀ (s : Shared) (H : Hp) (C : Addr) (cl : List (Str × Addr)) (fp : List Addr), PG (X.blk s H scope (compEnvC scope cl C X.env) fp) tg (t.g X.K))
    (ht : ∀ (s : Shared) (H : Hp) (C : Addr) (cl : List (Str × Addr)) (fp : List Addr), PTs (X.blk s H scope (compEnvC scope cl C X.env) fp) ifs (tTD X.K E0 tt))
    (he : ∀ (s : Shared) (H : Hp) (C : Addr) (cl : List (Str × Addr)) (fp : List Addr), PE (X.blk s H scope (compEnvC scope cl C X.env) fp) elt (tD X.K E0 te)) (hf : ∀ x, foldedSetIterable iter X.env x = pure x := by intro _; rfl) :
    PE X (.ListComp elt [⟨tg, iter, ifs, 0⟩] scope pos) (tD X.K E (lcP ti t tt te (own.map (·.2)))) :=
  imE (pe_lc hc hN hi ok hg ht he hf) fun _ _ _ => tD_lc hs
end

/-! ### statements -/
def nxP : SDen := fun Δ st => some (.ok (.nx Δ), st)
/-- one statement, then the rest -/
def sqP (t u : SDen) : SDen := fun Δ st => bd (t Δ st) fun o st1 => match o with
  | .nx Δ1 => u Δ1 st1
  | o => some (.ok o, st1)
def asP (g : Tgt) (te : EDen) : SDen := fun Δ st => bd (te Δ st) fun d st1 => (g.put d Δ).map fun Δ1 => (.ok (.nx Δ1), st1)
def rtP (te : EDen) : SDen := fun Δ st => bd (te Δ st) fun d st1 => some (.ok (.rt d), st1)
def rnP : SDen := fun Δ st => some (.ok (.rt .non), st)
def exP (te : EDen) : SDen := fun Δ st => bd (te Δ st) fun _ st1 => some (.ok (.nx Δ), st1)
def bkP : SDen := fun Δ st => some (.ok (.bk Δ), st)
def ctP : SDen := fun Δ st => some (.ok (.ct Δ), st)
def ngP : SDen := fun _ _ => none
section
variable {X : Cx} {E : XK} {st : Stmt} {rest : List Stmt} {t u : SDen} {e : Expr} {te : EDen} {pos : Pos}
theorem dss_nil : PSs X [] (tSD X.K E nxP) := imSs pss_nil fun D σ H h => by
  obtain ⟨W, st, Δ, r, st', L, I, e, k⟩ := h
  cases e
  exact k W H (Le.refl _ _) I σ L
theorem tSD_sq {D : Ends} {σ : L2.St} {H : Hp} (h : tSD X.K E (sqP t u) D σ H) : tSeq (tSD X.K E t) (tSD X.K E u) D σ H := by
  obtain ⟨W, st, Δ, r, st', L, I, e, k⟩ := h
  replace e : Dn.bd (t Δ st) (fun o st1 => match o with | .nx Δ1 => u Δ1 st1 | o => some (.ok o, st1)) = some (r, st') := e
  unfold Dn.bd at e
  cases hm : t Δ st with
  | none => rw [hm] at e; cases e
  | some p =>
    obtain ⟨ra, st1⟩ := p
    rw [hm] at e
    cases ra with
    | error x => simp only at e; cases e; exact ⟨W, st, Δ, .error x, _, L, I, hm, k⟩
    | ok o =>
      cases o with
      | nx Δ1 => exact ⟨W, st, Δ, .ok (.nx Δ1), st1, L, I, hm, fun W1 H1 e1 i1 σ' L' => ⟨W1, st1, Δ1, r, st', L', i1, e, k.to e1⟩⟩
      | rt d => simp only at e; cases e; exact ⟨W, st, Δ, .ok (.rt d), _, L, I, hm, k⟩
      | bk d => simp only at e; cases e; exact ⟨W, st, Δ, .ok (.bk d), _, L, I, hm, k⟩
      | ct d => simp only at e; cases e; exact ⟨W, st, Δ, .ok (.ct d), _, L, I, hm, k⟩
theorem dss_cons (h1 : PS X st (tSD X.K E t)) (h2 : PSs X rest (tSD X.K E u)) : PSs X (st :: rest) (tSD X.K E (sqP t u)) := imSs (pss_cons h1 h2) fun _ _ _ => tSD_sq
theorem dss_one (h1 : PS X st (tSD X.K E t)) : PSs X [st] (tSD X.K E t) := pss_one h1
theorem ds_asg {tg : Expr} (g : Tgt) (he : PE X e (tD X.K E te)) (hg : PG X tg (g.g X.K)) (hs : swapsWithSole [tg] e pos.line X.env = pure false := by rfl) (hw : swappedStores [tg] e X.env = pure none := by rfl) (h1 : List.map (fun x => x.snd) (assignEach [tg] X.env) = [assign tg X.env] := by rfl) : PS X (.Assign [tg] e pos) (tSD X.K E (asP g te)) := by
  refine imS (ps_asg he hg hs hw h1) fun D σ H h => ?_
  obtain ⟨W, st, h⟩ := h
  refine ⟨W, st, h.seq.mono fun d st1 W1 H1 e1 i1 q v rv => ?_⟩
  obtain ⟨Δ, r, st', L, I, e, k⟩ := q.2
  simp only at e
  cases hp : g.put d Δ with
  | none => rw [hp] at e; cases e
  | some Δ1 =>
    rw [hp] at e
    cases e
    exact put_ok g L rv hp fun σ' L' _ _ => k W1 H1 (Le.refl _ _) I σ' L'
theorem ds_set {i : Nat} {x : Str} {pos' : Pos} (hN : X.N.Nodup) (hi : X.N[i]? = some x) (hx : L2.Loc X.env.scope x) (he : PE X e (tD X.K E te)) (hs : swapsWith e (some (.Name x pos')) pos.line X.env = pure false := by rfl)
    (hf : X.fn x = true ∨ X.env.scope.names.lookup x = some .local := by first | exact .inl rfl | exact .inr rfl | assumption) : PS X (.Assign [.Name x pos'] e pos) (tSD X.K E (asP (.one i) te)) := by
  refine imS (ps_set hN hi hx he hs hf) fun D σ H h => ?_
  obtain ⟨W, st, h⟩ := h
  refine ⟨W, st, h.seq.mono fun d st1 W1 H1 e1 i1 q v rv => ?_⟩
  obtain ⟨Δ, r, st', L, I, e, k⟩ := q.2
  cases e
  exact k W1 H1 (Le.refl _ _) I _ (L.set rv)
theorem ds_ret (he : PE X e (tD X.K E te)) : PS X (.Return (some e) pos) (tSD X.K E (rtP te)) := by
  refine imS (ps_ret he) fun D σ H h => ?_
  obtain ⟨W, st, h⟩ := h
  refine ⟨W, st, h.seq.mono fun d st1 W1 H1 e1 i1 q v rv => ?_⟩
  exact q.2.ret (fun _ => rfl) v rv
theorem ds_retN : PS X (.Return none pos) (tSD X.K E rnP) := imS ps_retN fun D σ H h => by
  obtain ⟨W, st, h⟩ := h
  exact h.ret (fun _ => rfl) .non .non
theorem ds_expr (he : PE X e (tD X.K E te)) (hs : swapsWith e none pos.line X.env = pure false := by rfl) : PS X (.Expr e pos) (tSD X.K E (exP te)) := by
  refine imS (ps_expr he hs) fun D σ H h => ?_
  obtain ⟨W, st, h⟩ := h
  refine ⟨W, st, h.seq.mono fun d st1 W1 H1 e1 i1 q v rv => ?_⟩
  obtain ⟨Δ, r, st', L, I, e, k⟩ := q.2
  cases e
  exact k W1 H1 (Le.refl _ _) I σ L
theorem ds_break : PS X (.Break pos) (tSD X.K E bkP) := imS ps_break fun D σ H h => by
  obtain ⟨W, st, Δ, r, st', L, I, e, k⟩ := h
  cases e
  exact k W H (Le.refl _ _) I σ L
theorem ds_continue : PS X (.Continue pos) (tSD X.K E ctP) := imS ps_continue fun D σ H h => by
  obtain ⟨W, st, Δ, r, st', L, I, e, k⟩ := h
  cases e
  exact k W H (Le.refl _ _) I σ L
theorem ds_pass : PS X (.Pass pos) (tSD X.K E nxP) := imS ps_pass fun D σ H h => by
  obtain ⟨W, st, Δ, r, st', L, I, e, k⟩ := h
  cases e
  exact k W H (Le.refl _ _) I σ L
/-- a statement that is not reached -/
theorem ds_never : PS X st (tSD X.K E ngP) := imS ps_never fun D σ H h => by
  obtain ⟨W, st, Δ, r, st', L, I, e, k⟩ := h
  cases e
theorem dss_never : PSs X rest (tSD X.K E ngP) := imSs pss_never fun D σ H h => by
  obtain ⟨W, st, Δ, r, st', L, I, e, k⟩ := h
  cases e
theorem ds_if {c : Expr} {a b : List Stmt} {tc : TDen} (hc : PT X c (tTD X.K E tc)) (ha : PSs X a (tSD X.K E t)) (hb : PSs X b (tSD X.K E u)) : PS X (.If c a b pos) (tSD X.K E (ifP tc t u)) := by
  refine imS (ps_if hc ha hb) fun D σ H h => ?_
  obtain ⟨W, st, h⟩ := h
  refine ⟨W, st, (h.seq (k := fun b Δ st1 => if b = true then t Δ st1 else u Δ st1)).mono fun k st1 W1 H1 e1 i1 q => ?_⟩
  obtain ⟨_, q⟩ := q
  cases k with
  | true => exact iteT ⟨W1, st1, q⟩
  | false => exact iteF ⟨W1, st1, q⟩
end

/-! ### for -/
def foGo (g : Tgt) (tb : SDen) : List D → Dl → Sta → Mo Out
  | [], Δ, st => some (.ok (.nx Δ), st)
  | d :: ds, Δ, st => (g.put d Δ).bind fun Δ1 => match tb Δ1 st with
    | some (.ok (.nx Δ2), st2) => foGo g tb ds Δ2 st2
    | some (.ok (.ct Δ2), st2) => foGo g tb ds Δ2 st2
    | some (.ok (.bk Δ2), st2) => some (.ok (.nx Δ2), st2)
    | r => r
def foP (ti : IDen) (g : Tgt) (tb : SDen) : SDen := fun Δ st => bd (ti Δ st) fun ds st1 => foGo g tb ds Δ st1
section
variable {X : Cx} {E : XK}
theorem tSD_fo {ti : IDen} {g : Tgt} {tb : SDen} {D : Ends} {σ : L2.St} {H : Hp} (h : tSD X.K E (foP ti g tb) D σ H) : tFor (tI X.K E ti) (g.g X.K) (tSD X.K E tb) D σ H := by
  obtain ⟨W0, st0, Δ0, r0, st0', L0, iv0, e0, k0⟩ := h
  unfold foP bd at e0
  cases hm : ti Δ0 st0 with
  | none => rw [hm] at e0; cases e0
  | some p =>
  obtain ⟨rr, st1⟩ := p
  rw [hm] at e0
  cases rr with
  | error x =>
    simp only at e0
    cases e0
    exact ⟨W0, st0, Δ0, .error x, _, L0, iv0, hm, k0⟩
  | ok ds =>
    simp only at e0
    refine ⟨W0, st0, Δ0, .ok ds, st1, L0, iv0, hm, fun W1 H1 e1 i1 J wk => ?_⟩
    obtain ⟨G, Y, w, hG, hY⟩ := wk.ex
    refine for_it w (fun i σ2 H2 => ∃ W2 st Δ, Le W1 H1 W2 H2 ∧ Holds X.K W2 H2 st ∧ LocD X.K W2 H2 σ2 Δ ∧ foGo g tb (ds.drop i) Δ st = some (r0, st0')) ?_ (fun i σ2 H2 _ hp => ?_) (fun i x σ2 H2 H3 hi hp hy => ?_) (fun σ2 H2 hp => ?_)
    · exact ⟨W1, st1, Δ0, Le.refl _ _, i1, L0.to e1, by rw [List.drop_zero]; exact e0⟩
    · obtain ⟨W2, _, _, e2, _⟩ := hp
      exact hG W2 H2 e2.w
    · obtain ⟨W2, st, Δ, e2, i2, L2', eg⟩ := hp
      have hd : ds[i]? = some ds[i] := List.getElem?_eq_getElem hi
      obtain ⟨sm, rx⟩ := hY i W2 H2 st x H3 ds[i] e2.w i2 hd hy
      have e3 : Le W1 H1 W2 H3 := e2.trans (Le.of sm)
      have i3 := i2.same sm
      rw [List.drop_eq_getElem_cons hi] at eg
      simp only [foGo] at eg
      cases hp2 : g.put ds[i] Δ with
      | none => rw [hp2] at eg; cases eg
      | some Δ1 =>
        rw [hp2] at eg
        simp only [Option.bind] at eg
        refine put_ok g (L2'.to (Le.of sm)) rx hp2 fun σ3 L3 _ _ => ?_
        cases ht : tb Δ1 st with
        | none => rw [ht] at eg; cases eg
        | some q =>
          obtain ⟨rb, st2⟩ := q
          rw [ht] at eg
          refine ⟨W2, st, Δ1, rb, st2, L3, i3, ht, ?_⟩
          cases rb with
          | error z =>
            simp only at eg
            cases eg
            exact k0.to (e1.trans e3)
          | ok o =>
            cases o with
            | nx Δ2 => exact fun W4 H4 e4 i4 σ4 L4 => ⟨W4, st2, Δ2, e3.trans e4, i4, L4, eg⟩
            | ct Δ2 => exact fun W4 H4 e4 i4 σ4 L4 => ⟨W4, st2, Δ2, e3.trans e4, i4, L4, eg⟩
            | bk Δ2 =>
              simp only at eg
              cases eg
              exact fun W4 H4 e4 i4 σ4 L4 => k0 W4 H4 ((e1.trans e3).trans e4) i4 σ4 L4
            | rt d =>
              simp only at eg
              cases eg
              exact fun W4 H4 e4 i4 v rv => k0 W4 H4 ((e1.trans e3).trans e4) i4 v rv
    · obtain ⟨W2, st, Δ, e2, i2, L2', eg⟩ := hp
      rw [List.drop_length] at eg
      simp only [foGo] at eg
      cases eg
      exact k0 W2 H2 (e1.trans e2) i2 σ2 L2'
theorem ds_for {tg iter : Expr} {body : List Stmt} {pos : Pos} {ti : IDen} (g : Tgt) {tb : SDen} (hp : PassesOwn (model X.prog X.w) X.A X.env X.xe) (hc : X.calm = true) (hi : PI X tg iter (tI X.K E ti)) (hg : PG X tg (g.g X.K)) (hb : PSs X body (tSD X.K E tb)) (hs : ∀ x, foldedSetIterable iter X.env x = pure x := by intro _; rfl) :
    PS X (.For tg iter body [] pos) (tSD X.K E (foP ti g tb)) := imS (ps_for hp hc hi hg hb hs) fun _ _ _ => tSD_fo
end
end Dn

set_option Elab.async false
set_option linter.all false
set_option maxRecDepth 100000
set_option maxHeartbeats 4000000
namespace Dn
open PySem PySem.Spec PyProof.Rows L2
abbrev andD := intD fun i j => some (Builtin.bitAnd i j)
abbrev orD := intD fun i j => some (Builtin.bitOr i j)
abbrev xorD := intD fun i j => some (Builtin.bitXor i j)
/-! ### is None -/
def isNon : D → Option Bool
  | .non => some true
  | .opq _ => none
  | _ => some false
def isNP (ta : EDen) : EDen := fun Δ st => bd (ta Δ st) fun d st1 => (isNon d).map fun b => (.ok (.bl b), st1)
def notNP (ta : EDen) : EDen := fun Δ st => bd (ta Δ st) fun d st1 => (isNon d).map fun b => (.ok (.bl (!b)), st1)
section
variable {X : Cx} {E : XK} {a b : Expr} {ta tb : EDen} {pos pos' : Pos} {σ : L2.St} {H : Hp} {Q : VK} {j : Nat}
theorem isNon_of {K : PySem.W.Frag} {W : Wd} {v : V} {d : D} {b : Bool} (r : Rp K W H v d) (h : isNon d = some b) : decide (v = .non) = b := by
  cases r <;> simp only [isNon] at h <;> cases h <;> rfl
theorem tD_isN (h : tD X.K E (isNP ta) σ H Q) : tIsN (tD X.K E ta) σ H Q := by
  obtain ⟨W, st, h⟩ := h
  refine ⟨W, st, h.seq.mono fun d st1 W1 H1 e1 i1 q v rv => ?_⟩
  obtain ⟨Δ, r, st', L, I, e, k⟩ := q.2
  simp only at e
  cases q0 : isNon d with
  | none => rw [q0] at e; cases e
  | some b0 =>
    rw [q0] at e
    cases e
    rw [isNon_of rv q0]
    exact k W1 H1 (Le.refl _ _) I _ (.bl _)
theorem tD_notN (h : tD X.K E (notNP ta) σ H Q) : tNotN (tD X.K E ta) σ H Q := by
  obtain ⟨W, st, h⟩ := h
  refine ⟨W, st, h.seq.mono fun d st1 W1 H1 e1 i1 q v rv => ?_⟩
  obtain ⟨Δ, r, st', L, I, e, k⟩ := q.2
  simp only at e
  cases q0 : isNon d with
  | none => rw [q0] at e; cases e
  | some b0 =>
    rw [q0] at e
    cases e
    rw [isNon_of rv q0]
    exact k W1 H1 (Le.refl _ _) I _ (.bl _)
theorem de_isN (ha : PE X a (tD X.K E ta)) : PE X (.Compare a [.Is] [.Constant .none j pos'] pos) (tD X.K E (isNP ta)) := imE (pe_cmp (pc_isN ha) rfl) fun _ _ _ => tD_isN
theorem de_notN (ha : PE X a (tD X.K E ta)) : PE X (.Compare a [.IsNot] [.Constant .none j pos'] pos) (tD X.K E (notNP ta)) := imE (pe_cmp (pc_notN ha) rfl) fun _ _ _ => tD_notN
theorem dt_isN (ha : PE X a (tD X.K E ta)) : PT X (.Compare a [.Is] [.Constant .none j pos'] pos) (tTD X.K E (tstP (isNP ta))) := imT (pt_cmp (pc_isN ha) rfl) fun _ _ _ h => tD_isN (tTD_tst h)
theorem dt_notN (ha : PE X a (tD X.K E ta)) : PT X (.Compare a [.IsNot] [.Constant .none j pos'] pos) (tTD X.K E (tstP (notNP ta))) := imT (pt_cmp (pc_notN ha) rfl) fun _ _ _ h => tD_notN (tTD_tst h)
def negP (ta : EDen) : EDen := fun Δ st => bd (ta Δ st) fun d st1 => (intOf d).map fun i => (.ok (.int (-i)), st1)
theorem de_neg (ha : PE X a (tD X.K E ta)) : PE X (.UnaryOp .USub a pos) (tD X.K E (negP ta)) := imE (pe_un un_neg ha) fun σ H Q h => by
  obtain ⟨W, st, h⟩ := h
  refine ⟨W, st, h.seq.mono fun d st1 W1 H1 e1 i1 q v rv => ?_⟩
  obtain ⟨Δ, r, st', L, I, e, k⟩ := q.2
  cases rv <;> simp only [intOf] at e <;> cases e
  exact ⟨_, rfl, k W1 H1 (Le.refl _ _) I _ (.int _)⟩

/-! ### in, not in: plain values in a list or tuple; one sign in a text -/
def toV : D → Option V
  | .non => some .non
  | .bl b => some (.bl b)
  | .int i => some (.int i)
  | .str x => some (.str x)
  | _ => none
def toVs : List D → Option (List V)
  | [] => some []
  | d :: ds => (toV d).bind fun v => (toVs ds).map fun vs => v :: vs
theorem toV_of {K : PySem.W.Frag} {W : Wd} {v v' : V} {d : D} (r : Rp K W H v d) (h : toV d = some v') : v = v' ∧ flatV v = true := by
  cases r <;> simp only [toV] at h <;> cases h <;> exact ⟨rfl, rfl⟩
theorem toVs_of {K : PySem.W.Frag} {W : Wd} : ∀ {ds : List D} {vs vs' : List V}, Rps K W H vs ds → toVs ds = some vs' → vs = vs' ∧ vs.all flatV = true
  | [], _, _, .nil, h => by cases h; exact ⟨rfl, rfl⟩
  | d :: ds, _, vs', .cons r t, h => by
    simp only [toVs] at h
    cases e : toV d with
    | none => rw [e] at h; cases h
    | some w =>
      rw [e] at h
      cases e2 : toVs ds with
      | none => rw [e2] at h; cases h
      | some ws =>
        rw [e2] at h
        cases h
        obtain ⟨rfl, f1⟩ := toV_of r e
        obtain ⟨rfl, f2⟩ := toVs_of t e2
        exact ⟨rfl, by rw [List.all_cons, f1, f2]; rfl⟩
def inB : D → D → Option Bool
  | x, .lst ds => (toV x).bind fun v => (toVs ds).map fun vs => inV v vs
  | x, .tup ds => (toV x).bind fun v => (toVs ds).map fun vs => inV v vs
  | .str x, .str y => if x.cps = #[x.cps.getD 0 0] then some (decide (x.cps.getD 0 0 ∈ y.cps.toList)) else none
  | _, _ => none
def inD (x y : D) : Option D := (inB x y).map .bl
def notInD (x y : D) : Option D := (inB x y).map fun b => .bl (!b)
theorem or_inG {op : CmpOp} {neg : Bool} (h1 : OpR X (compareOp op) (rIn X.K neg)) (h2 : OpR X (compareOp op) (fun x y H Q => ∃ (c : Nat) (z : Str), x = .str ⟨#[c]⟩ ∧ y = .str z ∧ Q (.bl (if neg then !decide (c ∈ z.cps.toList) else decide (c ∈ z.cps.toList))) H)) :
    OpR X (compareOp op) (rBinD X.K fun x y => (inB x y).map fun b => .bl (if neg then !b else b)) := by
  intro pins s σ H x y v u Q I rx ry q
  obtain ⟨W, st, d1, d2, d, r1, r2, iv, hf, k⟩ := q
  simp only at hf
  cases e : inB d1 d2 with
  | none => rw [e] at hf; cases hf
  | some b =>
    rw [e] at hf
    cases hf
    unfold inB at e
    split at e
    · rename_i ds
      cases e1 : toV d1 with
      | none => rw [e1] at e; cases e
      | some v1 =>
        rw [e1] at e
        cases e2 : toVs ds with
        | none => rw [e2] at e; cases e
        | some vs =>
          rw [e2] at e
          cases e
          cases r2 with
          | lst n2 s2 q2 =>
            obtain ⟨rfl, f1⟩ := toV_of r1 e1
            obtain ⟨rfl, f2⟩ := toVs_of q2 e2
            exact h1 pins s σ H _ _ v u Q I rx ry ⟨_, _, rfl, .inl (sq_l s2), f1, f2, k _ _ (Same.refl _) (.bl _)⟩
    · rename_i ds
      cases e1 : toV d1 with
      | none => rw [e1] at e; cases e
      | some v1 =>
        rw [e1] at e
        cases e2 : toVs ds with
        | none => rw [e2] at e; cases e
        | some vs =>
          rw [e2] at e
          cases e
          cases r2 with
          | tup s2 q2 =>
            obtain ⟨rfl, f1⟩ := toV_of r1 e1
            obtain ⟨rfl, f2⟩ := toVs_of q2 e2
            exact h1 pins s σ H _ _ v u Q I rx ry ⟨_, _, rfl, .inr (sq_t s2), f1, f2, k _ _ (Same.refl _) (.bl _)⟩
    · rename_i x y
      split at e
      · rename_i hx
        cases e
        cases r1
        cases r2
        refine h2 pins s σ H _ _ v u Q I rx ry ⟨x.cps.getD 0 0, y, ?_, rfl, k _ _ (Same.refl _) (.bl _)⟩
        obtain ⟨cps⟩ := x
        simp only at hx
        rw [← hx]
      · cases e
    · cases e
theorem or_in : OpR X (compareOp .In) (rBinD X.K inD) := or_inG (neg := false) op_in_seq op_in_sign
theorem or_notIn : OpR X (compareOp .NotIn) (rBinD X.K notInD) := or_inG (neg := true) op_notIn_seq op_notIn_sign

/-! ### isinstance(x, (T, U)) -/
variable {y1 y2 : Str} {p p1 p2 : Pos} {kk : Nat} {tpos : Pos}
theorem de_isi2 (t1 t2 : Ty) (hm : X.mg "isinstance" = none) (hm1 : X.mg y1 = none) (hm2 : X.mg y2 = none) (hv1 : bootBuiltins y1 = some (.type t1.name)) (hv2 : bootBuiltins y2 = some (.type t2.name)) (ha : PE X a (tD X.K E ta)) (hg : Gl X "isinstance" := by rfl) (hg1 : Gl X y1 := by rfl) (hg2 : Gl X y2 := by rfl)
    (hn1 : y1 ≠ "__name__" := by decide) (hdb1 : (y1 == ("__debug__" : Str)) = false := by decide) (hn2 : y2 ≠ "__name__" := by decide) (hdb2 : (y2 == ("__debug__" : Str)) = false := by decide)
    (hs : starEach (a :: [.Tuple [.Name y1 p1, .Name y2 p2] kk tpos]) X.env = (false, eval a X.env) :: starEach [.Tuple [.Name y1 p1, .Name y2 p2] kk tpos] X.env := by rfl) (hpl : (backTo pos (starEach [.Tuple [.Name y1 p1, .Name y2 p2] kk tpos] X.env)).any (·.1) = false := by rfl)
    (hs2 : starEach ([.Tuple [.Name y1 p1, .Name y2 p2] kk tpos]) X.env = (false, eval (.Tuple [.Name y1 p1, .Name y2 p2] kk tpos) X.env) :: starEach [] X.env := by rfl)
    (hs3 : starEach ([.Name y1 p1, .Name y2 p2]) X.env = (false, eval (.Name y1 p1) X.env) :: starEach [.Name y2 p2] X.env := by rfl) (hs4 : starEach ([.Name y2 p2]) X.env = (false, eval (.Name y2 p2) X.env) :: starEach [] X.env := by rfl) :
    PE X (.Call (.Name "isinstance" p) [a, .Tuple [.Name y1 p1, .Name y2 p2] kk tpos] [] pos) (tD X.K E (isisP [t1, t2] ta)) := by
  refine imE (pe_callB call_isiT hg hm (by decide +kernel) (pa_cons ha (pa_cons (pe_tup (pa_cons (pe_bltn hg1 hm1 hv1 (show RelV (.ty t1.name) _ from rfl) hn1 hdb1) (pa_cons (pe_bltn hg2 hm2 hv2 (show RelV (.ty t2.name) _ from rfl) hn2 hdb2) pa_nil hs4) hs3)) pa_nil hs2) hs) (by decide) (by decide) hs hpl) fun σ H Q h => ?_
  obtain ⟨W, st, h⟩ := h
  refine ⟨W, st, h.seq.mono fun d st1 W1 H1 e1 i1 q v rv => ?_⟩
  obtain ⟨Δ, r, st', L, I, e, k⟩ := q.2
  simp only at e
  cases q0 : isTys d [t1, t2] with
  | none => rw [q0] at e; cases e
  | some b0 =>
    rw [q0] at e
    cases e
    simp only [isTys] at q0
    cases q1 : isTy d t1 with
    | none => rw [q1] at q0; cases q0
    | some b1 =>
      rw [q1] at q0
      obtain ⟨u, hu, hk⟩ := isTy_kit rv t1 q1
      refine ⟨by show 2 ≤ sizeLine; decide, fun p np => ?_⟩
      have rv2 := rv.to (Le.of (same_new (o := .tup [.ty t1.name, .ty t2.name]) np) : Le W1 H1 W1 _)
      obtain ⟨u2, hu2, hk2⟩ := isTy_kit rv2 t1 q1
      refine ⟨v, p, [.ty t1.name, .ty t2.name], u2, [.type t1.name, .type t2.name], b0, rfl, upd_same, .cons (.ty _) (.cons (.ty _) .nil), hu2, ?_, k W1 _ (Le.of (same_new np)) (I.same (same_new np)) _ (.bl _)⟩
      refine kitAny_cons (hk2 t1 b1 q1) (fun hb => ?_) fun hb => ?_
      · subst hb
        simp only [Option.bind] at q0
        cases q2 : isTy d t2 with
        | none => rw [q2] at q0; cases q0
        | some b2 =>
          rw [q2] at q0
          refine kitAny_cons (r := b0) (hk2 t2 b2 q2) (fun hb => ?_) fun hb => ?_
          · subst hb; cases q0; exact kitAny_nil
          · subst hb; cases q0; rfl
      · subst hb; cases q0; rfl

/-! ### zip of two lists, of two tuples -/
def zipL : List D → List D → List D
  | x :: xs, y :: ys => .tup [x, y] :: zipL xs ys
  | _, _ => []
theorem zipL_length : ∀ xs ys : List D, (zipL xs ys).length = min xs.length ys.length
  | [], _ => by simp [zipL]
  | _ :: _, [] => by simp [zipL]
  | x :: xs, y :: ys => by
    simp only [zipL, List.length_cons, zipL_length xs ys]
    omega
theorem zipL_get : ∀ (xs ys : List D) (i : Nat) (d : D), (zipL xs ys)[i]? = some d → ∃ x y, xs[i]? = some x ∧ ys[i]? = some y ∧ d = .tup [x, y]
  | [], _, _, _, h => by simp [zipL] at h
  | _ :: _, [], _, _, h => by simp [zipL] at h
  | x :: xs, y :: ys, 0, d, h => by simp [zipL] at h; exact ⟨x, y, rfl, rfl, h.symm⟩
  | x :: xs, y :: ys, i + 1, d, h => by
    obtain ⟨x', y', h1, h2, h3⟩ := zipL_get xs ys i d (by simpa [zipL] using h)
    exact ⟨x', y', by simpa using h1, by simpa using h2, h3⟩
def zipF : List D → Option (List D)
  | [.lst xs, .lst ys] => some (zipL xs ys)
  | [.tup xs, .tup ys] => some (zipL xs ys)
  | _ => none
def zipP (tr : ADen) : IDen := fun Δ st => bd (tr Δ st) fun ds st1 => (zipF ds).map fun r => (.ok r, st1)
theorem di_zip {elts : List Expr} {tr : ADen} (hm : X.mg "zip" = none) (ha : PA X [a, b] (tAD X.K E tr)) (hg : Gl X "zip" := by rfl) (hs : starEach [a, b] X.env = (false, eval a X.env) :: starEach [b] X.env := by rfl) (hpl : (backTo pos (starEach [b] X.env)).any (·.1) = false := by rfl) :
    PI X (.Tuple elts kk tpos) (.Call (.Name "zip" p) [a, b] [] pos) (tI X.K E (zipP tr)) := by
  refine ⟨fun pins s σ H R I h => (RZ.pi_zipA hg hm ha hs hpl).run pins s σ H R I ?_⟩
  obtain ⟨W, st, h⟩ := h
  refine ⟨W, st, h.seq.mono fun ds st1 W1 H1 e1 i1 q vs rs => ?_⟩
  obtain ⟨Δ, r, L, iv, e, k⟩ := q.2.val (m := fun _ => zipF ds)
  unfold zipF at e
  split at e
  · rename_i xs ys
    cases e
    obtain ⟨v, v', rfl, rv, rv'⟩ := rps2 rs
    cases rv with
    | @lst a vx _ n1 s1 q1 =>
      cases rv' with
      | @lst b vy _ n2 s2 q2 =>
        refine ⟨a, b, vx, vy, rfl, .inl ⟨sq_l s1, sq_l s2, k W1 H1 (Le.refl _ _) iv _ ⟨fun H => SqL X.K H a vx ∧ SqL X.K H b vy, YPair (fun i => vx[i]?) (fun i => vy[i]?), ?_, fun W2 H e2 => ⟨sq_l (e2.ext _ _ n1 s1), sq_l (e2.ext _ _ n2 s2)⟩, fun i W2 H st2 x H' d e2 i2 hd y => ?_⟩⟩⟩
        · exact walk_zip (by rw [zipL_length, q1.length, q2.length])
        · obtain ⟨T, x1, x2, rfl, nT, rfl, f1, f2⟩ := y
          obtain ⟨d1, d2, g1, g2, rfl⟩ := zipL_get _ _ _ _ hd
          obtain ⟨w1, m1, r1⟩ := q1.get g1
          obtain ⟨w2, m2, r2⟩ := q2.get g2
          rw [show vx[i]? = some x1 from f1] at m1
          rw [show vy[i]? = some x2 from f2] at m2
          cases m1
          cases m2
          exact ⟨same_new nT, rp_tup i2 nT (.cons (r1.tow e2) (.cons (r2.tow e2) .nil))⟩
  · rename_i xs ys
    cases e
    obtain ⟨v, v', rfl, rv, rv'⟩ := rps2 rs
    cases rv with
    | @tup a vx _ s1 q1 =>
      cases rv' with
      | @tup b vy _ s2 q2 =>
        have up : ∀ {c : Addr} {vs : List V} {W2 : Wd} {H : Hp}, (¬ W1.N c ∧ Rd H1 c (.tup vs)) ∨ WrT X.K c vs → Lw W1 H1 W2 H → SqT X.K H c vs := fun {c vs W2 H} s e2 => by
          rcases s with ⟨n, s⟩ | s
          · rcases s with s | ⟨o, s⟩
            · exact .inl (.inl (e2.ext _ _ n s))
            · exact .inl (.inr ⟨o, e2.ext _ _ n s⟩)
          · exact .inr s
        refine ⟨a, b, vx, vy, rfl, .inr ⟨sq_t s1, sq_t s2, k W1 H1 (Le.refl _ _) iv _ ⟨fun H => SqT X.K H a vx ∧ SqT X.K H b vy, YPair (fun i => vx[i]?) (fun i => vy[i]?), ?_, fun W2 H e2 => ⟨up s1 e2, up s2 e2⟩, fun i W2 H st2 x H' d e2 i2 hd y => ?_⟩⟩⟩
        · refine ⟨fun i H hi q => ?_, fun H q => ⟨vx, vy, q.1, q.2, by rw [zipL_length, q1.length, q2.length]; omega⟩, fun i H v H' _ q y => ?_⟩
          · rw [zipL_length] at hi
            have h1 : i < vx.length := by rw [q1.length]; omega
            have h2 : i < vy.length := by rw [q2.length]; omega
            exact ⟨vx, vy, vx[i], vy[i], q.1, q.2, by simp [h1], by simp [h2]⟩
          · obtain ⟨T, x, z, h1, h2, h3, h4, h5⟩ := y
            exact ⟨T, x, z, h1, h2, h3, h4 vx q.1, h5 vy q.2⟩
        · obtain ⟨T, x1, x2, rfl, nT, rfl, f1, f2⟩ := y
          obtain ⟨d1, d2, g1, g2, rfl⟩ := zipL_get _ _ _ _ hd
          obtain ⟨w1, m1, r1⟩ := q1.get g1
          obtain ⟨w2, m2, r2⟩ := q2.get g2
          rw [show vx[i]? = some x1 from f1] at m1
          rw [show vy[i]? = some x2 from f2] at m2
          cases m1
          cases m2
          exact ⟨same_new nT, rp_tup i2 nT (.cons (r1.tow e2) (.cons (r2.tow e2) .nil))⟩
  · cases e

/-! ### a, b = x, y; name = [..] -/
def parP (i j : Nat) (tr : ADen) : SDen := fun Δ st => bd (tr Δ st) fun ds st1 => match ds with
  | [x, y] => some (.ok (.nx ((Δ.set i (some x)).set j (some y))), st1)
  | _ => none
theorem ds_par {i j : Nat} {x y : Str} {px py pt : Pos} {kt k2 : Nat} {pt2 : Pos} {tr : ADen} (hN : X.N.Nodup) (ha : PA X [a, b] (tAD X.K E tr)) (hc : X.calm = true := by rfl) (hi : X.N[i]? = some x := by rfl) (hj : X.N[j]? = some y := by rfl) (hij : i ≠ j := by decide)
    (hx : X.env.scope.names.lookup x = some .local := by rfl) (hy : X.env.scope.names.lookup y = some .local := by rfl)
    (hw : swappedStores [.Tuple [.Name x px, .Name y py] kt pt] (.Tuple [a, b] k2 pt2) X.env = pure (some [x, y]) := by rfl)
    (hs : swapsWithSole [.Tuple [.Name x px, .Name y py] kt pt] (.Tuple [a, b] k2 pt2) pos.line X.env = pure false := by rfl) :
    PS X (.Assign [.Tuple [.Name x px, .Name y py] kt pt] (.Tuple [a, b] k2 pt2) pos) (tSD X.K E (parP i j tr)) := by
  refine imS (ps_par hc hN hi hj hij hx hy ha hw hs) fun D σ H h => ?_
  obtain ⟨W, st, h⟩ := h
  refine ⟨W, st, h.seq.mono fun ds st1 W1 H1 e1 i1 q vs rs => ?_⟩
  obtain ⟨Δ, r, st', L, I, e, k⟩ := q.2
  simp only at e
  split at e
  · cases e
    obtain ⟨v, v', rfl, rv, rv'⟩ := rps2 rs
    exact ⟨v, v', rfl, k W1 H1 (Le.refl _ _) I _ ((L.set rv).set rv')⟩
  · cases e
theorem ds_setLc {i : Nat} {y : Str} {py spos : Pos} {elt iter : Expr} {ifs : List Expr} {scope : Scope} (t : Tgt) (own : List (Str × Nat)) {tg : Expr} {ti : IDen} {tt : TDen} {te : EDen} (hc : X.calm = true) (hN : X.N.Nodup) (hs : ∀ i ∈ t.slots, i ∈ own.map (·.2)) (hi : PI X tg iter (tI X.K E ti)) (ok : BlkOk X.N X.env.scope scope own)
    (hg : ∀ (s : Shared) (H : Hp) (C : Addr) (cl : List (Str × Addr)) (fp : List Addr), PG (X.blk s H scope (compEnvC scope cl C X.env) fp) tg (t.g X.K))
    (ht : ∀ (s : Shared) (H : Hp) (C : Addr) (cl : List (Str × Addr)) (fp : List Addr), PTs (X.blk s H scope (compEnvC scope cl C X.env) fp) ifs (tTD X.K E0 tt))
    (he : ∀ (s : Shared) (H : Hp) (C : Addr) (cl : List (Str × Addr)) (fp : List Addr), PE (X.blk s H scope (compEnvC scope cl C X.env) fp) elt (tD X.K E0 te)) (hy : X.N[i]? = some y := by rfl) (hyl : X.env.scope.names.lookup y = some .local := by rfl)
    (hsw : swapsWith (.ListComp elt [⟨tg, iter, ifs, 0⟩] scope pos) (some (.Name y py)) spos.line X.env = pure true := by exact sw_true rfl rfl rfl (by decide +kernel)) (hf : ∀ x, foldedSetIterable iter X.env x = pure x := by intro _; rfl) :
    PS X (.Assign [.Name y py] (.ListComp elt [⟨tg, iter, ifs, 0⟩] scope pos) spos) (tSD X.K E (asP (.one i) (lcP ti t tt te (own.map (·.2))))) := by
  refine imS (ps_setLc hc hN hy hyl hsw hi ok hg ht he hf) fun D σ H h => ?_
  obtain ⟨W, st, h⟩ := h
  refine tD_lc (X := X) (E := E) hs ⟨W, st, h.seq.mono fun d st1 W1 H1 e1 i1 q v rv => ?_⟩
  obtain ⟨Δ, r, st', L, I, e, k⟩ := q.2
  cases e
  exact k W1 H1 (Le.refl _ _) I _ (L.set rv)

/-! ### sep.join(a list of texts) -/
def joinF : D → D → Option D
  | .str a, .lst ds => (strsD ds).bind fun ys => if (ys.map (·.length)).sum + ys.length * a.length ≤ big then some (.str (Txt.join a ys)) else none
  | .str a, .tup ds => (strsD ds).bind fun ys => if (ys.map (·.length)).sum + ys.length * a.length ≤ big then some (.str (Txt.join a ys)) else none
  | _, _ => none
theorem de_join {apos : Pos} (ha : PE X a (tD X.K E ta)) (hb : PE X b (tD X.K E tb)) (hs : starEach [b] X.env = [(false, eval b X.env)] := by rfl) (hbase : attributeBase a "join" X.env (eval a X.env) = eval a X.env := by rfl) (hline : (apos.endLine == pos.line) = true := by rfl)
    (hstr : ∀ Δ st d st1, ta Δ st = some (.ok d, st1) → ∃ z, d = .str z) :
    PE X (.Call (.Attribute a "join" apos) [b] [] pos) (tD X.K E (binP joinF ta tb)) := by
  refine imE (pe_join ha hb hs hbase hline) fun σ H Q h => ?_
  obtain ⟨W, st, Δ0, r0, st0, L0, I0, e0, k0⟩ := h
  have h : tGw X.K W st E (binP joinF ta tb) σ H _ := ⟨Δ0, r0, st0, L0, I0, e0, k0⟩
  refine ⟨W, st, ?_⟩
  have h2 := h.seq
  obtain ⟨Δ, r, st', L, I, e, k⟩ := h2
  refine ⟨Δ, r, st', L, I, e, ?_⟩
  cases r with
  | error x => exact k
  | ok d =>
    intro W1 H1 e1 i1 v rv
    obtain ⟨z, rfl⟩ := hstr Δ st d st' e
    cases rv
    refine ⟨⟨z, rfl⟩, W1, st', (k W1 H1 e1 i1).2.seq.mono fun y st2 W2 H2 e2 i2 q2 u ru => ?_⟩
    obtain ⟨Δ', d', L', I', hf, k'⟩ := q2.2.val (m := fun _ => joinF (.str z) y)
    have key : ∀ {ds : List D} {xs : List V} {p : Addr}, Rps X.K W2 H2 xs ds → (SqL X.K H2 p xs ∨ SqT X.K H2 p xs) → u = .ref p → ((strsD ds).bind fun ys => if (ys.map (·.length)).sum + ys.length * z.length ≤ big then some (D.str (Txt.join z ys)) else none) = some d' →
        ∃ a p, ∃ ys : List Str, V.str z = .str a ∧ [u] = [.ref p] ∧ (SqL X.K H2 p (ys.map V.str) ∨ SqT X.K H2 p (ys.map V.str)) ∧ (ys.map (·.length)).sum + ys.length * a.length ≤ 16777216 ∧ Q (.str (Txt.join a ys)) H2 := fun {ds xs p} rs hq hu hd => by
      cases e3 : strsD ds with
      | none => rw [e3] at hd; cases hd
      | some ys =>
        rw [e3] at hd
        simp only [Option.bind] at hd
        split at hd
        · rename_i hb
          cases hd
          rw [strsD_of e3] at rs
          rw [rs.strs] at hq
          exact ⟨z, p, ys, rfl, by rw [hu], hq, Nat.le_trans hb (by decide), k' W2 H2 (Le.refl _ _) I' _ (.str _)⟩
        · cases hd
    unfold joinF at hf
    cases ru with
    | lst n s r => exact key r (.inl (sq_l s)) rfl hf
    | tup s r => exact key r (.inr (sq_t s)) rfl hf
    | _ => cases hf
end
end Dn

set_option Elab.async false
set_option linter.all false
set_option maxRecDepth 100000
set_option maxHeartbeats 4000000
namespace Dn
open PySem PySem.Spec PyProof.Rows L2
/-! ### what a law draws from: a list of five, changed by its places -/
def BagSt.item (s : BagSt) : Int → Option D
  | 0 => some (.lst (s.cells.map .int))
  | 1 => some (.int s.at_)
  | 2 => some (.int s.rest)
  | 3 => some (.int s.seed)
  | 4 => some (.int s.cnt)
  | _ => none
def BagSt.put (s : BagSt) : Int → D → Option BagSt
  | 1, .int n => if 0 ≤ n then some { s with at_ := n.toNat } else none
  | 2, .int n => some { s with rest := n }
  | 3, .int n => some { s with seed := n }
  | 4, .int n => some { s with cnt := n }
  | _, _ => none
def isBag (Δ : Dl) (i : Nat) : Bool := match Δ[i]? with | some (some (.hnd 0)) => true | _ => false
def bagIx (i : Nat) (k : Int) : EDen := fun Δ st => if isBag Δ i = true then (st.bag.bind fun s => s.item k).map fun d => (.ok d, st) else none
def bagSet (i : Nat) (k : Int) (te : EDen) : SDen := fun Δ st => bd (te Δ st) fun d st1 =>
  if isBag Δ i = true then (st1.bag.bind fun s => s.put k d).map fun s' => (.ok (.nx Δ), { st1 with bag := some s' }) else none
section
variable {K : PySem.W.Frag} {W : Wd} {H : Hp} {σ : L2.St} {Δ : Dl} {i : Nat}
theorem isBag_at (L : LocD K W H σ Δ) (h : isBag Δ i = true) : ∃ a, σ[i]? = some (some (.ref a)) ∧ W.h 0 = some a := by
  unfold isBag at h
  split at h
  · rename_i q
    obtain ⟨v, h1, h2⟩ := L.2 i _ q
    cases h2 with
    | hnd n e => exact ⟨_, h1, e⟩
  · cases h
end
section
variable {X : Cx} {E : XK} {e : Expr} {te : EDen} {i : Nat} {x : Str} {px p pos pos' : Pos} {j : Nat}
theorem bag_k {k : Int} {s : BagSt} {d : D} (h : s.item k = some d) : k = 0 ∨ k = 1 ∨ k = 2 ∨ k = 3 ∨ k = 4 := by
  unfold BagSt.item at h
  split at h <;> simp_all
theorem de_bagIx (k : Int) (hN : X.N[i]? = some x := by rfl) (hv : Vis X.env.scope x := by first | exact Or.inl rfl | exact Or.inr (Or.inl rfl) | exact Or.inr (Or.inr rfl)) (hd : (x == ("__debug__" : Str)) = false := by decide)
    (hcd : (x == ("__classdict__" : Str)) = false := by decide) : PE X (.Subscript (.Name x px) (.Constant (.int k) j p) pos) (tD X.K E (bagIx i k)) := by
  refine imE (pe_ix ix_list (pe_var hN hv hd hcd) pe_int (fun _ _ => rfl)) fun σ H Q h => ?_
  obtain ⟨W, st, Δ, r, st', L, I, e, w⟩ := h
  unfold bagIx at e
  split at e
  · rename_i hb
    obtain ⟨b, h1, h2⟩ := isBag_at L hb
    cases hs : st.bag with
    | none => rw [hs] at e; cases e
    | some s =>
      rw [hs] at e
      simp only [Option.bind] at e
      cases hi : s.item k with
      | none => rw [hi] at e; cases e
      | some d =>
        rw [hi] at e
        cases e
        obtain ⟨b', g1, gM, l, g2, g3, g4⟩ := I.bag s hs
        rw [h2] at g1
        cases g1
        have key : ∀ v, atI [V.ref l, .int s.at_, .int s.rest, .int s.seed, .int s.cnt] k = some v → Rp X.K W H v d → tOp (rIxL X.K) (tVar i) (tC (.int k)) σ H Q := fun v a r => ⟨.ref b, h1, b, _, k, v, rfl, rfl, sq_l g4, a, w W H (Le.refl _ _) I v r⟩
        rcases bag_k hi with rfl | rfl | rfl | rfl | rfl <;> simp only [BagSt.item] at hi <;> cases hi
        · exact key (.ref l) rfl (.lst g2 g3 (Rps.of_ints _))
        · exact key _ rfl (.int _)
        · exact key _ rfl (.int _)
        · exact key _ rfl (.int _)
        · exact key _ rfl (.int _)
  · cases e
theorem bag_put {s s' : BagSt} {k : Int} {d : D} (h : s.put k d = some s') : ∃ n j : Int, d = .int n ∧ ixN 5 k = some j.toNat ∧ (∀ l : Addr, [V.ref l, .int s.at_, .int s.rest, .int s.seed, .int s.cnt].set j.toNat (.int n) = [V.ref l, .int s'.at_, .int s'.rest, .int s'.seed, .int s'.cnt]) ∧ s'.cells = s.cells := by
  unfold BagSt.put at h
  split at h
  · split at h
    · rename_i n hn
      cases h
      refine ⟨n, 1, rfl, rfl, fun l => ?_, rfl⟩
      show [V.ref l, .int n, .int s.rest, .int s.seed, .int s.cnt] = [V.ref l, .int ((n.toNat : Nat) : Int), .int s.rest, .int s.seed, .int s.cnt]
      rw [Int.toNat_of_nonneg hn]
    · cases h
  · cases h; exact ⟨_, 2, rfl, rfl, fun l => rfl, rfl⟩
  · cases h; exact ⟨_, 3, rfl, rfl, fun l => rfl, rfl⟩
  · cases h; exact ⟨_, 4, rfl, rfl, fun l => rfl, rfl⟩
  · cases h
/-- the state's own list changes -/
theorem Holds.bagUpd {K : PySem.W.Frag} {W : Wd} {H : Hp} {st : Sta} {b l : Addr} {s' : BagSt} (I : Holds K W H st) (hb : W.h 0 = some b) (hM : W.M b) (hl : ¬ W.N l) (g3 : H l = some (.lst (s'.cells.map V.int))) : Holds K W (upd H b (.lst [.ref l, .int s'.at_, .int s'.rest, .int s'.seed, .int s'.cnt])) { st with bag := some s' } := by
  have hN := W.sub _ hM
  have th : ∀ a, H a ≠ none → upd H b (.lst [.ref l, .int s'.at_, .int s'.rest, .int s'.seed, .int s'.cnt]) a ≠ none := fun a h z => by
    by_cases hp : a = b
    · subst hp; rw [upd_same] at z; cases z
    · rw [upd_ne hp] at z
      exact h z
  refine ⟨fun a n => th a (I.there a n), I.inj, fun n a h => th a (I.hdl n a h), (fun z => nomatch z), fun s h => ?_, fun a ns h => ?_, fun n c h => ?_, I.bd⟩
  · cases h
    exact ⟨b, hb, hM, l, hl, by rw [upd_ne (fun e => hl (by rw [e]; exact hN))]; exact g3, upd_same⟩
  · rcases I.scr a ns h with ⟨h2, h3⟩ | h3
    · have hp : a ≠ b := fun e => h2 (by rw [e]; exact hN)
      refine .inl ⟨h2, ?_⟩
      rcases h3 with q | ⟨u, q⟩
      · exact .inl (by rw [upd_ne hp]; exact q)
      · exact .inr ⟨u, by rw [upd_ne hp]; exact q⟩
    · exact .inr h3
  · obtain ⟨h0, p, h1, h2, h3⟩ := I.own n c h
    have hp : p ≠ b := fun e => h0 (I.inj n 0 b (by rw [← e]; exact h1) hb)
    exact ⟨h0, p, h1, h2, h3.tow (lw_upd hN) (upd_ne hp)⟩
theorem ds_bagSet (k : Int) (he : PE X e (tD X.K E te)) (hN : X.N[i]? = some x := by rfl) (hv : Vis X.env.scope x := by first | exact Or.inl rfl | exact Or.inr (Or.inl rfl) | exact Or.inr (Or.inr rfl)) (hd : (x == ("__debug__" : Str)) = false := by decide)
    (hcd : (x == ("__classdict__" : Str)) = false := by decide) (hs : swapsWithSole [.Subscript (.Name x px) (.Constant (.int k) j p) pos'] e pos.line X.env = pure false := by rfl) (hw : swappedStores [.Subscript (.Name x px) (.Constant (.int k) j p) pos'] e X.env = pure none := by rfl)
    (h1 : List.map (fun x => x.snd) (assignEach [.Subscript (.Name x px) (.Constant (.int k) j p) pos'] X.env) = [assign (.Subscript (.Name x px) (.Constant (.int k) j p) pos') X.env] := by rfl) :
    PS X (.Assign [.Subscript (.Name x px) (.Constant (.int k) j p) pos'] e pos) (tSD X.K E (bagSet i k te)) := by
  refine imS (ps_asg he (pg_sub (pe_var hN hv hd hcd) pe_int set_list) hs hw h1) fun D σ H h => ?_
  obtain ⟨W, st, h⟩ := h
  obtain ⟨Δ0, r0, st0, L0, I0, e0, w0⟩ := id h
  refine ⟨W, st, ?_⟩
  have h2 := h.seq
  obtain ⟨Δ1, r1, st1, L1, I1, e1, w1⟩ := h2
  refine ⟨Δ1, r1, st1, L1, I1, e1, ?_⟩
  cases r1 with
  | error x => exact w1
  | ok d =>
    intro W1 H1 le1 i1 v rv
    obtain ⟨Δ, r, st', L, I, e, k'⟩ := (w1 W1 H1 le1 i1).2
    simp only at e
    split at e
    · rename_i hb
      obtain ⟨b, q1, q2⟩ := isBag_at L hb
      cases hsb : st1.bag with
      | none => rw [hsb] at e; cases e
      | some s =>
        rw [hsb] at e
        simp only [Option.bind] at e
        cases hi : s.put k d with
        | none => rw [hi] at e; cases e
        | some s' =>
          rw [hi] at e
          cases e
          obtain ⟨b', g1, gM, l, g2, g3, g4⟩ := I.bag s hsb
          rw [q2] at g1
          cases g1
          obtain ⟨n, j', rfl, hix, hset, hcells⟩ := bag_put hi
          cases rv
          have J := I.bagUpd (s' := s') q2 gM g2 (by rw [hcells]; exact g3)
          refine ⟨.ref b, q1, b, _, k, j'.toNat, rfl, rfl, g4, hix, ?_⟩
          rw [hset l]
          have le2 : Le W1 H1 W1 (upd H1 b (.lst [.ref l, .int s'.at_, .int s'.rest, .int s'.seed, .int s'.cnt])) := ⟨fun a o n h => by rw [upd_ne (fun z => n (by rw [z]; exact gM))]; exact h, fun _ h => .inl h, fun _ h => .inl h, fun _ h => h, fun _ _ h => h, fun _ _ h => .inl h, fun a h z => by
            by_cases hp : a = b
            · subst hp; rw [upd_same] at z; cases z
            · rw [upd_ne hp] at z; exact h z⟩
          exact k' W1 _ le2 J σ (L.to le2)
    · cases e
end
end Dn

set_option Elab.async false
set_option linter.all false
set_option maxRecDepth 100000
set_option maxHeartbeats 4000000
namespace Dn
open PySem PySem.Spec PyProof.Rows L2 PySem.Froz
/-! ### sets of texts: what set(xs) holds, and sorted(set(xs)) -/
def putS (l : List Str) (x : Str) : List Str := if x ∈ l then l else x :: l
def metS (xs : List Str) : List Str := xs.foldl putS []
theorem putS_nd {l : List Str} {x : Str} (h : l.Nodup) : (putS l x).Nodup := by
  unfold putS
  split
  · exact h
  · exact List.nodup_cons.mpr ⟨by assumption, h⟩
theorem putS_mem {l : List Str} {x y : Str} : y ∈ putS l x ↔ y = x ∨ y ∈ l := by
  unfold putS
  split
  · rename_i c
    exact ⟨Or.inr, fun z => z.elim (fun e => e ▸ c) id⟩
  · exact List.mem_cons
theorem putS_len {l : List Str} {x : Str} : (putS l x).length ≤ l.length + 1 := by
  unfold putS
  split
  · exact Nat.le_succ _
  · exact Nat.le_refl _
theorem metS_take {xs : List Str} {i : Nat} {x : Str} (h : xs[i]? = some x) : metS (xs.take (i + 1)) = putS (metS (xs.take i)) x := by
  unfold metS
  rw [List.take_add_one, h, List.foldl_append] <;> rfl
theorem foldS_mem : ∀ (xs l : List Str) (y : Str), y ∈ xs.foldl putS l ↔ y ∈ xs ∨ y ∈ l
  | [], l, y => by simp
  | x :: xs, l, y => by
    rw [List.foldl_cons, foldS_mem xs, putS_mem, List.mem_cons]
    constructor
    · rintro (h | h | h)
      · exact .inl (.inr h)
      · exact .inl (.inl h)
      · exact .inr h
    · rintro ((h | h) | h)
      · exact .inr (.inl h)
      · exact .inl h
      · exact .inr (.inr h)
theorem foldS_nd : ∀ (xs l : List Str), l.Nodup → (xs.foldl putS l).Nodup
  | [], _, h => h
  | _ :: xs, _, h => foldS_nd xs _ (putS_nd h)
theorem foldS_len : ∀ (xs l : List Str), (xs.foldl putS l).length ≤ xs.length + l.length
  | [], _ => by simp
  | x :: xs, l => by
    have h1 := foldS_len xs (putS l x)
    have h2 := putS_len (l := l) (x := x)
    rw [List.foldl_cons, List.length_cons]
    omega
theorem metS_mem {xs : List Str} {y : Str} : y ∈ metS xs ↔ y ∈ xs := by
  unfold metS
  rw [foldS_mem] <;> simp
theorem metS_nd (xs : List Str) : (metS xs).Nodup := foldS_nd xs [] .nil
theorem metS_len (xs : List Str) : (metS xs).length ≤ xs.length := foldS_len xs []

structure TxAt (P : Program) (w : World) (h : Heap) (a : Addr) (D : SD) (l : List Str) : Prop where
  ob : h.get? a = some (sObj "set" D)
  ok : TxOk P w D l
  nd : l.Nodup
  up : Ris D.2.2.place.toList
  led : w.params.followText "set-order" = true ∨ D.2.2.led = true
theorem tail_tab {ep : Nat} {es : Array (Int × Value)} {t : SetTable} {b : Bool} (r : Ris t.place.toList) : Ris (tailTx ep es t b).2.2.place.toList ∧ (tailTx ep es t b).2.2.led = t.led := by
  unfold tailTx
  split
  · exact ⟨relayAll_ris t es _, relayAll_led t es _⟩
  · exact ⟨r, rfl⟩
theorem add_tab {D : SD} {n : Int} {v : Value} (r : Ris D.2.2.place.toList) : Ris (addTx n v D).2.2.place.toList ∧ (addTx n v D).2.2.led = D.2.2.led := by
  have h1 := layNew_ris D.2.2 D.1 n v r
  have h2 := layNew_led D.2.2 D.1 n v
  unfold addTx
  generalize layNew D.2.2 D.1 n v = Z at h1 h2 ⊢
  obtain ⟨e1, t1, b1, g1⟩ := Z
  dsimp only at h1 h2 ⊢
  have key : ∀ t : SetTable, Ris t.place.toList → t.led = D.2.2.led → Ris (tailTx D.2.1 e1 t b1).2.2.place.toList ∧ (tailTx D.2.1 e1 t b1).2.2.led = D.2.2.led := fun t r' q => by
    obtain ⟨x, y⟩ := tail_tab (ep := D.2.1) (es := e1) (b := b1) r'
    exact ⟨x, y.trans q⟩
  split
  · exact key _ h1 h2
  · exact key _ h1 h2

section
variable {P : Program} {w : World} {A : Around} {E : Value → Shared → Prop} {s : Shared} {a : Addr} {D : SD} {l : List Str}
theorem add_old {k : Str} {u : Tok} {Q : Bool → Shared → Prop} (T : TxAt P w s.heap a D l) (hk : k ∈ l) (hb : l.length < scanBound) (h : Q false s) : wpAny (model P w) A (setAddHashed a (.str k u) (hashStr w k)) Q E s := by
  obtain ⟨es, ep, t⟩ := D
  have ho := T.ob
  have dt : (sObj "set" (es, ep, t)).data = .set es ep t := rfl
  have fit : t.fits es.size = true := T.ok.fit
  have el : ElemsOf (PySem.strKind P w) es.toList := T.ok.el
  have few : es.size < scanBound := by
    have q : es.size = l.length := T.ok.sz
    omega
  have ik : (PySem.strKind P w).is k (.str k u) = true := is_str k u
  unfold setAddHashed setAddHashedIn
  refine wpAny_holding (wpAny_bind (wpAny_setState_of ho dt fit ?_))
  dsimp only
  rw [byScan_of rfl few el]
  simp only [↓reduceIte]
  unfold setAddByScan
  refine wpAny_bind (wpAny_bind (wpAny_rule (wpAny_bind (wpAny_setScan_of (knd := PySem.strKind P w) (k := k) ik ho dt fit el ?_))))
  cases f : List.findIdx? (fun e => (PySem.strKind P w).is k e.2) es.toList with
  | none =>
    obtain ⟨e, he, q⟩ := (T.ok.mem k).mp hk
    have c := List.findIdx?_eq_none_iff.mp f e he
    rw [q] at c
    cases c
  | some j =>
    dsimp only
    exact wpAny_pure (wpAny_pure h)
theorem add_any {k : Str} {u : Tok} {Q : Bool → Shared → Prop} (T : TxAt P w s.heap a D l) (hb : l.length + 1 < scanBound)
    (h : ∀ b h' D', Heap.SameBut a s.heap h' → TxAt P w h' a D' (putS l k) → Q b { s with heap := h' }) : wpAny (model P w) A (setAddHashed a (.str k u) (hashStr w k)) Q E s := by
  rcases Classical.em (k ∈ l) with c | c
  · refine add_old T c (by omega) ?_
    have e : putS l k = l := if_pos c
    exact h false s.heap D (Heap.SameBut.refl a s.heap) (by rw [e]; exact T)
  · refine add_x T.ob T.ok c hb ?_
    have e : putS l k = k :: l := if_neg c
    have r := add_tab (n := hashStr w k) (v := .str k u) T.up
    refine h true _ (addTx (hashStr w k) (.str k u) D) (Heap.SameBut.update s.heap a _) (by rw [e]; exact ⟨get_upd _ T.ob rfl, add_ok u T.ok, List.nodup_cons.mpr ⟨c, T.nd⟩, r.1, T.led.imp id fun z => r.2.trans z⟩)
theorem TxAt.keep {h h' : Heap} (T : TxAt P w h a D l) (k : ∀ o, h.get? a = some o → h'.get? a = some o) : TxAt P w h' a D l := ⟨k _ T.ob, T.ok, T.nd, T.up, T.led⟩
theorem txt_new {h : Heap} (ho : h.get? a = some (sObj "set" (#[], 0, .fresh 0 0 (!w.params.followText "set-order")))) : TxAt P w h a (#[], 0, .fresh 0 0 (!w.params.followText "set-order")) [] where
  ob := ho
  ok := TxOk.nil rfl
  nd := .nil
  up := List.Pairwise.nil
  led := by
    show _ ∨ (!w.params.followText "set-order") = true
    cases w.params.followText "set-order"
    · exact .inr rfl
    · exact .inl rfl

/-- one pass of set.update over what is walked -/
theorem txt_loop {I : Addr} {fp wr : List Addr} {G : Array GenState → Array GenState → Prop} {n : Nat} {Pv : Nat → Value → Prop} {St : Nat → Shared → Prop} {R : Result → Shared → Prop} (W : WalksS P w A.in1 I fp wr G n Pv St) (S : Addr) (out : S ∉ fp)
    (xs : List Str) (hn : n = xs.length) (few : xs.length + 1 < scanBound) (each : ∀ i v, Pv i v → ∃ x t, xs[i]? = some x ∧ v = .str x t) : ∀ (m i : Nat) (s : Shared), n - i = m → i ≤ n → St i s → (∃ D, TxAt P w s.heap S D (metS (xs.take i))) →
      (∀ s' D, Moved (S :: wr) G s s' → TxAt P w s'.heap S D (metS xs) → R (.ok (.ret .none)) s') → codeAny (model P w) A (.builtin "set.update.loop" ⟨[.ref S, .ref I], []⟩) R s := by
  have notW : S ∉ wr := fun z => out (W.sub _ z)
  have wide : ∀ b ∈ wr, b ∈ S :: wr := fun b hb => List.mem_cons_of_mem _ hb
  intro m
  induction m with
  | zero =>
    intro i s em hi st ⟨D, T⟩ fin
    obtain rfl : i = n := by omega
    refine codeAny_builtin PyProof.Rows.F.entry_set_update_loop ?_
    rw [Around.under_plainId PyProof.Rows.F.plain_set_update_loop _]
    show wpAny _ A.in1 (pyNext (.ref I) >>= _) _ _ s
    refine wpAny_bind (W.done s _ _ st fun s1 mv => wpAny_pure (fin s1 D (mv.mono wide) ?_))
    rw [List.take_of_length_le (Nat.le_of_eq hn.symm)] at T
    exact T.keep fun o e => mv.heap S o notW e
  | succ m ih =>
    intro i s em hi st ⟨D, T⟩ fin
    have lt : i < n := by omega
    refine codeAny_builtin PyProof.Rows.F.entry_set_update_loop ?_
    rw [Around.under_plainId PyProof.Rows.F.plain_set_update_loop _]
    show wpAny _ A.in1 (pyNext (.ref I) >>= _) _ _ s
    refine wpAny_bind (W.item i s _ _ lt st fun v s1 pv st1 mv => ?_)
    obtain ⟨x, t, hx, rfl⟩ := each i v pv
    have T1 : TxAt P w s1.heap S D (metS (xs.take i)) := T.keep fun o e => mv.heap S o notW e
    show wpAny _ A.in1 (holding [Value.str x t] (setAdd S (.str x t)) >>= _) _ _ s1
    refine wpAny_bind (wpAny_holding ?_)
    unfold setAdd
    refine wpAny_holding (wpAny_bind ((PySem.strKind P w).pyHash (is_str x t) ?_))
    refine add_any (s := { s1 with toks := s1.toks + 1 }) T1 ?_ fun b h2 D2 sb T2 => ?_
    · have := metS_len (xs.take i)
      have q := List.length_take_le i xs
      omega
    · refine wpAny_pure ⟨plainId_quiet PyProof.Rows.F.plain_set_update_loop _, ih (i + 1) _ (by omega) lt (W.frame _ s1 _ _ st1 (Nat.le_succ _) fun b hb o e => ?_) ⟨D2, ?_⟩ fun s3 D3 mv3 T3 => ?_⟩
      · exact (sb.2 b fun z => out (z ▸ hb)).trans e
      · rw [metS_take hx]
        exact T2
      · refine fin s3 D3 (Moved.trans W.gtrans ((mv.mono wide).then_heap (Nat.le_succ _) fun b o hb e => ?_) mv3) T3
        exact (sb.2 b fun z => hb (z ▸ List.mem_cons_self)).trans e

abbrev noTxt (w : World) : Obj := { cls := .type "set", dict := none, data := .set #[] 0 (.fresh 0 0 (!w.params.followText "set-order")) }
def RowAt (T : String) (h : Heap) (l : Addr) (its : Array Value) : Prop := ∃ o, h.get? l = some o ∧ o.cls = .type T ∧ ∃ n, o.data = .seq its n
/-- what is walked: a tuple or a list -/
structure RowOf (P : Program) (w : World) (T U : String) (l : Addr) (its : Array Value) (St : Addr → Nat → Heap → Prop) : Prop where
  noSet : isSubtype (.type T) (.type "set") = pure false
  noFroz : isSubtype (.type T) (.type "frozenset") = pure false
  noDict : (Value.type T == Value.type "dict") = false
  iter : ∀ (A : Around) (E : Value → Shared → Prop) (s : Shared) (Q : Value → Shared → Prop), RowAt T s.heap l its →
    Q (.ref s.heap.objs.size) { s with heap := s.heap.push { cls := .type U, data := .fields #[.ref l, .int 0 0] } } → wpAny (model P w) A (pyIter (.ref l)) Q E s
  walk : ∀ (A : Around) (I : Addr), A.handled = none → l ≠ I → Walks P w A I [I, l] [I] its.size (fun i v => its[i]? = some v) (St I)
  start : ∀ h : Heap, RowAt T h l its → St h.objs.size 0 (h.push { cls := .type U, data := .fields #[.ref l, .int 0 0] })
theorem row_tup (l : Addr) (its : Array Value) : RowOf P w "tuple" "tuple_iterator" l its (fun I i h => h.IsTupleIter I l i ∧ h.IsTuple l its) where
  noSet := PySem.F.sub_tuple_set
  noFroz := PySem.F.sub_tuple_frozenset
  noDict := by decide
  iter := fun _ _ _ _ x y => wpAny_pyIter_tuple x y
  walk := fun _ I x y => Walks.tuple x I l y its
  start := fun h x => ⟨⟨_, Heap.get?_push_size _ rfl, rfl, rfl⟩, Heap.IsTuple.push (h := h) x _⟩
theorem row_lst (l : Addr) (its : Array Value) : RowOf P w "list" "list_iterator" l its (fun I i h => h.IsListIter I l i ∧ h.IsList l its) where
  noSet := PySem.F.sub_list_set
  noFroz := PySem.F.sub_list_frozenset
  noDict := by decide
  iter := fun _ _ _ _ x y => wpAny_pyIter_list x y
  walk := fun _ I x y => Walks.list x I l y its
  start := fun h x => ⟨⟨_, Heap.get?_push_size _ rfl, rfl, rfl⟩, Heap.IsList.push (h := h) x _⟩
/-- set(xs), xs a tuple or list of texts -/
theorem call_setTxt {T U : String} {l : Addr} {its : Array Value} {St : Addr → Nat → Heap → Prop} (Rw : RowOf P w T U l its St) (xs : List Str) {Q : Value → Shared → Prop} (hh : A.handled = none) (hl : RowAt T s.heap l its)
    (hi : StrsAre its.toList xs) (few : xs.length + 1 < scanBound)
    (h : ∀ (h' : Heap) (tk : Nat) D, TxAt P w h' s.heap.objs.size D (metS xs) → (∀ b o, s.heap.get? b = some o → h'.get? b = some o) → Q (.ref s.heap.objs.size) { s with heap := h', toks := tk }) :
    wpAny (model P w) A (call (.type "set") [.ref l]) Q E s := by
  have size : its.size = xs.length := by rw [← Array.length_toList, StrsAre.len_eq hi]
  obtain ⟨c, tl, hmro⟩ := PySem.F.called_set.mro
  have f1 := PySem.F.called_set.made
  have f2 := PySem.F.called_set.sub
  have f3 := PySem.F.called_set.notType
  have f4 := PySem.F.called_set.canCreate
  have f5 := PySem.F.typeCall_set_1 (.ref l)
  refine wpAny_call (codeAny_of_tree ?_)
  show wpAny _ _ (callAny (.type "set") _) _ _ _
  refine wpAny_pure ⟨Code.quiet_builtin _ (by decide +kernel), codeAny_builtin PySem.F.entry_type_call ?_⟩
  rw [Around.under_plain (weight_type_call_type "set" [.ref l] []) rfl]
  repeat (any_goals (first | assumption | wp_step))
  refine codeAny_mono (code_set_led1 (.ref l) (E := E) (Q₁ := fun v s1 => v = .ref s.heap.objs.size ∧ s1 = { s with heap := s.heap.push (noTxt w) }) ⟨rfl, rfl⟩) fun r s1 hr => ?_
  cases r with
  | error e => exact hr
  | ok fl =>
    cases fl with
    | ret v =>
      obtain ⟨rfl, rfl⟩ := hr
      have new : (s.heap.push (noTxt w)).get? s.heap.objs.size = some (noTxt w) := Heap.get?_push_size _ rfl
      have ty : Shared.TypeIs { s with heap := s.heap.push (noTxt w) } (.ref s.heap.objs.size) "set" := ⟨_, new, rfl⟩
      have f6 := PySem.F.called_set.init.lookup
      have f7 := PySem.F.called_set.init.bind (.ref s.heap.objs.size)
      repeat (any_goals (first | assumption | wp_step))
      refine codeAny_mono (codeAny_call_builtin (R := wants (fun r s2 => r = .none ∧ ∃ h' tk D, s2 = { s with heap := h', toks := tk } ∧ TxAt P w h' s.heap.objs.size D (metS xs) ∧ (∀ b o, s.heap.get? b = some o → h'.get? b = some o)) E)
        PySem.F.called_set.init.plain PySem.F.entry_set_init (check_set_init_1 ty ?_)) fun r s2 hr => ?_
      · have hl' : RowAt T (s.heap.push (noTxt w)) l its := by
          obtain ⟨o, a1, a2, a3⟩ := hl
          exact ⟨o, Heap.get?_push_of_some _ a1, a2, a3⟩
        obtain ⟨⟨oc, od, odt, osl⟩, at0, cl, n, dt⟩ := id hl
        simp only at cl dt
        subst cl
        subst dt
        have at1 : (s.heap.push (noTxt w)).get? l = some { cls := .type T, dict := od, data := .seq its n, slots := osl } := Heap.get?_push_of_some _ at0
        have f8 := Rw.noSet
        have f9 := Rw.noFroz
        have f0 := Rw.noDict
        unfold Builtin.«set.__init__» noKeywords Builtin.Frozenset.updateFrom
        generalize hPI : pyIter = PI
        wp_walk
        subst hPI
        refine Rw.iter _ _ _ _ hl' ?_
        refine wpAny_bind (wpAny_runValue ?_)
        have below : l < s.heap.objs.size := Heap.lt_size at0
        have sz : (s.heap.push (noTxt w)).objs.size = s.heap.objs.size + 1 := Heap.size_push ..
        have calm : A.in1.in1.in1.handled = none := by simp [hh]
        have ne1 : l ≠ (s.heap.push (noTxt w)).objs.size := by rw [sz]; exact Nat.ne_of_lt (Nat.lt_succ_of_lt below)
        have ne2 : s.heap.objs.size ≠ (s.heap.push (noTxt w)).objs.size := by rw [sz]; exact Nat.ne_of_lt (Nat.lt_succ_self _)
        have ne3 : s.heap.objs.size ∉ [(s.heap.push (noTxt w)).objs.size, l] := fun z => by
          rcases List.mem_cons.mp z with z | z
          · exact ne2 z
          · exact Nat.ne_of_gt below (List.mem_singleton.mp z)
        refine txt_loop ((Rw.walk _ (s.heap.push (noTxt w)).objs.size calm ne1).toS) s.heap.objs.size ne3 xs size few (fun i v hv => ?_)
          (its.size - 0) 0 _ rfl (Nat.zero_le _) (Rw.start _ hl') ⟨_, txt_new (Heap.get?_push_of_some _ new)⟩ fun s2 D mv Tx => ?_
        · have iv : its.toList[i]? = some v := by rw [Array.getElem?_toList]; exact hv
          obtain ⟨t, e⟩ := SS.strs_at hi i v iv
          have ib : i < xs.length := by rw [← size]; exact (Array.getElem?_eq_some_iff.mp hv).1
          exact ⟨xs[i], t, List.getElem?_eq_getElem ib, by rw [e, List.getD_eq_getElem?_getD, List.getElem?_eq_getElem ib] <;> rfl⟩
        · obtain ⟨h2, g2, d2, k2, o2⟩ := s2
          obtain rfl : g2 = s.gens := mv.gens
          obtain rfl : d2 = s.drawn := mv.drawn
          obtain rfl : o2 = s.os := mv.os
          show wpAny _ _ _ _ _ _
          refine wpAny_pure ?_
          show wpAny _ _ (ret Value.none) _ _ _
          refine wpAny_pure ⟨rfl, h2, k2, D, rfl, Tx, fun b o e => mv.heap b o ?_ (Heap.get?_push_of_some _ (Heap.get?_push_of_some _ e))⟩
          have hb := Heap.lt_size e
          intro z
          rcases List.mem_cons.mp z with z | z
          · exact Nat.ne_of_lt hb z
          · rw [List.mem_singleton, sz] at z
            exact Nat.ne_of_lt (Nat.lt_succ_of_lt hb) z
      · cases r with
        | error e => exact hr
        | ok fl =>
          cases fl with
          | ret v =>
            obtain ⟨rfl, h2, k2, D, rfl, Tx, kp⟩ := hr
            repeat (any_goals (first | assumption | wp_step))
            exact h _ _ D Tx kp
          | _ => exact hr.elim
    | _ => exact hr.elim
end
end Dn

set_option Elab.async false
set_option linter.all false
set_option maxRecDepth 100000
set_option maxHeartbeats 4000000
namespace Dn
open PySem PySem.Spec PyProof.Rows L2 PySem.Froz
/-! ### texts in their order -/
def leS (a b : Str) : Prop := ¬ (b.cps.toList < a.cps.toList)
instance (a b : Str) : Decidable (leS a b) := inferInstanceAs (Decidable (¬ _))
theorem leS_trans {a b c : Str} (h1 : leS a b) (h2 : leS b c) : leS a c := List.le_trans (List.not_lt.mp h1) (List.not_lt.mp h2) |> List.not_lt.mpr
theorem str_ext {a b : Str} (h : a.cps.toList = b.cps.toList) : a = b := by
  cases a; cases b
  congr 1
  exact Array.toList_inj.mp h
theorem leS_anti {a b : Str} (h1 : leS a b) (h2 : leS b a) : a = b := str_ext (List.le_antisymm (List.not_lt.mp h1) (List.not_lt.mp h2))
theorem leS_total (a b : Str) : leS a b ∨ leS b a := by
  by_cases c : b.cps.toList < a.cps.toList
  · exact .inr (List.lt_asymm c)
  · exact .inl c
def insS (x : Str) : List Str → List Str
  | [] => [x]
  | y :: l => if leS x y then x :: y :: l else y :: insS x l
def srtS (l : List Str) : List Str := l.foldr insS []
theorem insS_perm (x : Str) : ∀ l : List Str, (insS x l).Perm (x :: l)
  | [] => .refl _
  | y :: l => by
    unfold insS
    split
    · exact .refl _
    · exact ((insS_perm x l).cons y).trans (List.Perm.swap x y l)
theorem insS_ord (x : Str) : ∀ l : List Str, l.Pairwise leS → (insS x l).Pairwise leS
  | [], _ => by unfold insS; exact List.pairwise_singleton _ _
  | y :: l, h => by
    obtain ⟨h1, h2⟩ := List.pairwise_cons.mp h
    unfold insS
    split
    · rename_i c
      refine List.pairwise_cons.mpr ⟨fun z hz => ?_, h⟩
      rcases List.mem_cons.mp hz with e | e
      · exact e ▸ c
      · exact leS_trans c (h1 z e)
    · rename_i c
      refine List.pairwise_cons.mpr ⟨fun z hz => ?_, insS_ord x l h2⟩
      rcases List.mem_cons.mp ((insS_perm x l).mem_iff.mp hz) with e | e
      · rw [e]; exact (leS_total x y).resolve_left c
      · exact h1 z e
theorem srtS_perm : ∀ l : List Str, (srtS l).Perm l
  | [] => .refl _
  | x :: l => (insS_perm x _).trans ((srtS_perm l).cons x)
theorem srtS_ord : ∀ l : List Str, (srtS l).Pairwise leS
  | [] => .nil
  | x :: l => insS_ord x _ (srtS_ord l)
theorem srtS_len (l : List Str) : (srtS l).length = l.length := (srtS_perm l).length_eq
theorem rising_ord : ∀ (l : List Str) (p : Str), risingS p l = true → (p :: l).Pairwise leS
  | [], p, _ => List.pairwise_singleton _ _
  | x :: l, p, h => by
    unfold risingS at h
    rw [Bool.and_eq_true, ltCps_eq] at h
    have o := rising_ord l x h.2
    have px : leS p x := by
      have := h.1
      unfold leS
      simpa using this
    refine List.pairwise_cons.mpr ⟨fun z hz => ?_, o⟩
    rcases List.mem_cons.mp hz with e | e
    · exact e ▸ px
    · exact leS_trans px ((List.pairwise_cons.mp o).1 z e)
theorem sorted_ord {l : List Str} (h : sortedS l = true) : l.Pairwise leS := by
  cases l with
  | nil => exact .nil
  | cons x r => exact rising_ord r x h
/-- one order only -/
theorem srtS_one {ys xs : List Str} (p : ys.Perm xs) (h : ys.Pairwise leS) : ys = srtS xs :=
  List.Perm.eq_of_pairwise (fun _ _ _ _ a b => leS_anti a b) h (srtS_ord xs) (p.trans (srtS_perm xs).symm)
theorem perm_of_sub {α : Type} : ∀ {l m : List α}, l.Nodup → (∀ x ∈ l, x ∈ m) → m.length ≤ l.length → l.Perm m
  | [], m, _, _, h => by
    cases m with
    | nil => exact .refl _
    | cons x m => simp at h
  | x :: l, m, nd, sub, h => by
    obtain ⟨n1, n2⟩ := List.nodup_cons.mp nd
    obtain ⟨a, b, rfl⟩ := List.append_of_mem (sub x List.mem_cons_self)
    refine ((perm_of_sub n2 (m := a ++ b) (fun y hy => ?_) ?_).cons x).trans List.perm_middle.symm
    · have q := sub y (List.mem_cons_of_mem _ hy)
      rw [List.mem_append, List.mem_cons] at q
      rw [List.mem_append]
      rcases q with q | q | q
      · exact .inl q
      · exact absurd (q ▸ hy) n1
      · exact .inr q
    · simp only [List.length_append, List.length_cons] at h ⊢
      omega

section
variable {P : Program} {w : World} {A : Around} {E : Value → Shared → Prop} {s : Shared} {a : Addr} {D : SD} {l : List Str}
theorem elem_str {es : List (Int × Value)} (el : ElemsOf (PySem.strKind P w) es) {e : Int × Value} (he : e ∈ es) : ∃ x t, e.2 = Value.str x t := by
  obtain ⟨⟨k, hk, _⟩, _⟩ := el e he
  have q : Value.isStrOf k e.2 = true := hk
  revert q
  cases e.2 <;> intro q <;> first | exact ⟨_, _, rfl⟩ | (simp [Value.isStrOf] at q)
/-- sorted(s) of a set of texts -/
theorem sorted_setTxt {Q : Value → Shared → Prop} (T : TxAt P w s.heap a D l) (hh : A.handled = none) (h64 : l.length < 64)
    (hQ : ∀ s' p (out : Array Value) (c : Nat) (ys : List Str), (∀ b o, s.heap.get? b = some o → s'.heap.get? b = some o) → s'.gens = s.gens → s'.os = s.os → s.heap.objs.size ≤ p → s'.heap.get? p = some (seqObj "list" out c) → StrsAre out.toList ys → ys = srtS l → Q (.ref p) s') :
    wpAny (model P w) A (call (.builtin "sorted") [.ref a]) Q E s := by
  obtain ⟨es, ep, t⟩ := D
  have sz : es.size = l.length := T.ok.sz
  have el : ElemsOf (PySem.strKind P w) es.toList := T.ok.el
  refine Calls.call_function_entry kind_sorted plain_sorted entry_sorted (args_sorted1 _) ?_
  unfold Builtin.«sorted»
  refine wpAny_bind (m := checkCount "sorted" 1 1 _) (wpAny_pure ?_)
  refine wpAny_bind (collect_set (A := A.in1) hh ⟨_, T.ob, rfl, rfl⟩ T.ok.fit (by show es.size < scanBound; unfold scanBound; omega) T.up T.led fun s1 vs k1 z1 g1 o1 pm => ?_)
  have vl : vs.length = l.length := by rw [pm.length_eq, List.length_map, Array.length_toList]; exact sz
  have each : ∀ v ∈ vs, ∃ x u, v = Value.str x u := fun v hv => by
    obtain ⟨e, he, q⟩ := List.mem_map.mp (pm.mem_iff.mp hv)
    obtain ⟨x, u, e2⟩ := elem_str el he
    exact ⟨x, u, by rw [← q, e2]⟩
  have sa : StrsAre vs (vs.map strOf) := strsAre_map vs each
  have pl : l.Perm (vs.map strOf) := perm_of_sub T.nd (fun k hk => by
    obtain ⟨e, he, q⟩ := (T.ok.mem k).mp hk
    refine List.mem_map.mpr ⟨e.2, pm.mem_iff.mpr (List.mem_map.mpr ⟨e, he, rfl⟩), ?_⟩
    obtain ⟨x, u, e2⟩ := elem_str el he
    have q' : Value.isStrOf k e.2 = true := q
    rw [e2] at q' ⊢
    have q2 : (x == k) = true := q'
    exact beq_iff_eq.mp q2) (by rw [List.length_map, vl] <;> exact Nat.le_refl _)
  refine wpAny_bind (wpAny_newList ?_ (by rw [vl, sizeLine_eq]; omega))
  have ob : (s1.heap.push (seqObj "list" vs.toArray 0)).get? s1.heap.objs.size = some (seqObj "list" vs.toArray 0) := Heap.get?_push_size _ rfl
  refine wpAny_bind (wpAny_holding (wpAny_call_entry slot_list_sort ⟨_, ob, rfl⟩ entry_list_sort (list_sort_treeK strKind_oneLt ob sa.keysOf (fun v1 v2 r e => keyKind_strs (by rw [← e]; exact sa)) (by rw [vl]; exact h64) fun st' a1 a2 => ⟨_, rfl, ?_⟩) (args_list_sort _)))
  obtain ⟨ys, y1, y2, y3⟩ := sorted_out_str sa a1 a2
  obtain ⟨c, at1⟩ := sortedHeap_at (vs := vs) (out := (arrOf st').map (·.2)) ob
  refine wpAny_pure ⟨_, rfl, hQ _ s1.heap.objs.size _ c ys (fun b u e => ?_) g1 o1 z1 at1 y1 (srtS_one (y2.trans pl.symm) (sorted_ord y3))⟩
  have e1 := k1 b u e
  have lt := Heap.lt_size e1
  refine (sortedHeap_old (Nat.ne_of_lt lt) (by rw [size_push']; exact Nat.lt_succ_of_lt lt)).trans (Heap.get?_push_of_some _ e1)
end

/-! ### sorted(xs), sorted(set(xs)) as data -/
def isortI (l : List Int) : List Int := l.foldr (fun x l => l.takeWhile (· < x) ++ x :: l.dropWhile (· < x)) []
def sortF : List D → Option D
  | [.lst ds] => (strsD ds).bind fun ss => if ss.length < 64 then some (.lst ((srtS ss).map .str)) else none
  | _ => none
section
variable {X : Cx}
theorem cr_sortD : CallR X (.builtin "sorted") (rCD X.K sortF) := by
  intro pins s σ H xs us Q I r h
  obtain ⟨W, st, ds, d, rs, iv, hf, k⟩ := h
  unfold sortF at hf
  split at hf
  · rename_i es
    cases q : strsD es with
    | none => rw [q] at hf; cases hf
    | some ss =>
      rw [q] at hf
      simp only [Option.bind] at hf
      split at hf
      · rename_i few
        cases hf
        obtain ⟨v, rfl, rv⟩ := rps1 rs
        cases rv with
        | lst n1 s1 q1 =>
          rw [strsD_of q] at q1
          rw [q1.strs] at s1
          exact cr_sortedS pins s σ H _ us Q I r ⟨_, ss, rfl, sq_l s1, few, fun ys p pm so np => by
            rw [srtS_one pm (sorted_ord so)]
            exact k _ _ (same_new np) (rp_lst iv np (Rps.of_strs _))⟩
      · cases hf
  · cases hf
/-- sorted(set(xs)) -/
def sosD : D → Option D
  | .lst ds => (strsD ds).bind fun ss => if ss.length < 64 then some (.lst ((srtS (metS ss)).map .str)) else none
  | .tup ds => (strsD ds).bind fun ss => if ss.length < 64 then some (.lst ((srtS (metS ss)).map .str)) else none
  | _ => none
def sosP (te : EDen) : EDen := fun Δ st => bd (te Δ st) fun d st1 => (sosD d).map fun r => (.ok r, st1)
theorem sosD_at {K : PySem.W.Frag} {W : Wd} {H : Hp} {v : V} {d r : D} (rv : Rp K W H v d) (h : sosD d = some r) : ∃ a ss, v = .ref a ∧ (SqL K H a (ss.map V.str) ∨ SqT K H a (ss.map V.str)) ∧ ss.length < 64 ∧ r = .lst ((srtS (metS ss)).map .str) := by
  have key : ∀ es, ((strsD es).bind fun ss => if ss.length < 64 then some (D.lst ((srtS (metS ss)).map .str)) else none) = some r → ∃ ss, strsD es = some ss ∧ ss.length < 64 ∧ r = .lst ((srtS (metS ss)).map .str) := fun es h => by
    cases q : strsD es with
    | none => rw [q] at h; cases h
    | some ss =>
      rw [q] at h
      simp only [Option.bind] at h
      split at h
      · cases h
        exact ⟨ss, rfl, by assumption, rfl⟩
      · cases h
  unfold sosD at h
  split at h
  · obtain ⟨ss, q, few, e⟩ := key _ h
    cases rv with
    | lst n1 s1 q1 =>
      rw [strsD_of q] at q1
      rw [q1.strs] at s1
      exact ⟨_, ss, rfl, .inl (sq_l s1), few, e⟩
  · obtain ⟨ss, q, few, e⟩ := key _ h
    cases rv with
    | tup s1 q1 =>
      rw [strsD_of q] at q1
      rw [q1.strs] at s1
      exact ⟨_, ss, rfl, .inr (sq_t s1), few, e⟩
  · cases h
variable {E : XK} {a : Expr} {te : EDen} {p p2 q pos : Pos}
theorem de_sos (hc : X.calm = true) (hm : X.mg "sorted" = none) (hm2 : X.mg "set" = none) (ha : PE X a (tD X.K E te)) (hg : Gl X "sorted" := by rfl) (hg2 : Gl X "set" := by rfl) (na : starEach [a] X.env = (false, eval a X.env) :: starEach [] X.env := by rfl) :
    PE X (.Call (.Name "sorted" p) [.Call (.Name "set" p2) [a] [] q] [] pos) (tD X.K E (sosP te)) := by
  refine ⟨fun pins s σ H Q I h => ?_⟩
  obtain ⟨W, st0, h⟩ := h
  have h1 : tD X.K E te σ H fun v H1 => ∃ W1 st1 d r, Rp X.K W1 H1 v d ∧ Holds X.K W1 H1 st1 ∧ sosD d = some r ∧ ∀ v' H', Same H1 H' → Rp X.K W1 H' v' r → Q v' H' := ⟨W, st0, h.seq.mono fun d st1 W1 H1 e1 i1 q v rv => by
    obtain ⟨Δ, r, L, I, e, k⟩ := q.2.val (m := fun _ => sosD d)
    exact ⟨W1, st1, d, r, rv, I, e, fun v' H' e' rp => k W1 H' (Le.of e') (I.same e') v' rp⟩⟩
  refine Call_ (ld_blt I hg hm boot_sorted ?_)
  refine PyProof.Rows.callWith_builtin1 (PyProof.Rows.args_cons ?_ rfl) rfl rfl
  refine Call_ (ld_blt I hg2 hm2 boot_set ?_)
  refine PyProof.Rows.callWith_type1 (PyProof.Rows.args_cons (thn (ha.run pins s σ H _ I h1) fun v s1 ⟨x, H1, I1, r1, q1⟩ => PyProof.Rows.args_nil ?_) na) na rfl
  obtain ⟨W1, st1, d, r, rv, iv, e, k⟩ := q1
  obtain ⟨l, ss, rfl, sq, few, rfl⟩ := sosD_at rv e
  cases r1
  have few2 : ss.length + 1 < scanBound := by unfold scanBound; omega
  have ml := metS_len ss
  have fin2 : ∀ (s2 : Shared) (a : Addr) D, Inv X pins σ H1 s2 → TxAt X.prog X.w s2.heap a D (metS ss) → wpAny (model X.prog X.w) X.A (call (.builtin "sorted") [Value.ref a]) (EP X pins σ Q) X.xe s2 := fun s2 a D I2 Tx => by
    refine sorted_setTxt (s := s2) Tx (I2.ok.hd hc) (by omega) fun s' p out c ys kp2 g o hp hg hsa ey => ?_
    subst ey
    have np : H1 p = none := I2.hok.fresh hp
    have len : ((srtS (metS ss)).map V.str).length ≤ sizeLine := by rw [List.length_map, srtS_len, sizeLine_eq]; omega
    have J : Inv X pins σ (upd H1 p (.lst ((srtS (metS ss)).map V.str))) { s2 with heap := s'.heap, gens := s'.gens, drawn := s'.drawn, toks := s'.toks } :=
      I2.call (ch := []) (Un.laid kp2 hp np) (I2.hok.laid kp2 hp ⟨len, out.toList, c, vals_of_strs hsa, hg⟩) (by rw [g]; exact I2.bare) (fun _ z => nomatch z)
    have es : s' = { s2 with heap := s'.heap, gens := s'.gens, drawn := s'.drawn, toks := s'.toks } := by
      cases s'
      cases s2
      cases o
      rfl
    rw [es]
    exact ⟨.ref p, _, J, rfl, k _ _ (same_new np) (rp_lst iv np (Rps.of_strs _))⟩
  have fin : ∀ (h' : Heap) (tk : Nat) D, TxAt X.prog X.w h' s1.heap.objs.size D (metS ss) → (∀ b o, s1.heap.get? b = some o → h'.get? b = some o) →
      wpAny (model X.prog X.w) X.A (call (.builtin "sorted") [Value.ref s1.heap.objs.size]) (EP X pins σ Q) X.xe { s1 with heap := h', toks := tk } := fun h' tk D Tx kp => fin2 _ _ D (I1.kept fun b o e => kp b o e) Tx
  rcases sq with sq | sq
  · obtain ⟨its, rr, pl, hz⟩ := I1.list sq
    exact call_setTxt (row_lst l its.toArray) ss (I1.ok.hd hc) pl.isList (by simpa using strsAre_of rr) few2 fun h' tk D Tx kp => PyProof.Rows.args_nil (fin h' tk D Tx kp)
  · obtain ⟨its, rr, pl, hz⟩ := I1.tuple sq
    exact call_setTxt (row_tup l its.toArray) ss (I1.ok.hd hc) pl (by simpa using strsAre_of rr) few2 fun h' tk D Tx kp => PyProof.Rows.args_nil (fin h' tk D Tx kp)
end
end Dn

set_option Elab.async false
set_option linter.all false
set_option maxRecDepth 100000
set_option maxHeartbeats 4000000
namespace Dn
open PySem PySem.Spec PyProof.Rows L2
/-! ### a call with keywords only -/
def pick {α : Type} (is : List Nat) (xs : List α) : List α := is.filterMap fun i => xs[i]?
theorem vals_get : ∀ {vs : List V} {us : List Value} {i : Nat}, Vals vs us → (vs[i]? = none ∧ us[i]? = none) ∨ ∃ v u, vs[i]? = some v ∧ us[i]? = some u ∧ RelV v u
  | _, _, _, .nil => .inl ⟨rfl, rfl⟩
  | _, _, 0, .cons h _ => .inr ⟨_, _, rfl, rfl, h⟩
  | _, _, i + 1, .cons _ t => by
    rcases vals_get (i := i) t with h | h
    · exact .inl (by simpa using h)
    · exact .inr (by simpa using h)
theorem pick_vals {vs : List V} {us : List Value} (h : Vals vs us) : ∀ is : List Nat, Vals (pick is vs) (pick is us)
  | [] => .nil
  | i :: is => by
    unfold pick
    rcases vals_get (i := i) h with ⟨a, b⟩ | ⟨v, u, a, b, c⟩
    · rw [List.filterMap_cons, List.filterMap_cons, a, b]
      exact pick_vals h is
    · rw [List.filterMap_cons, List.filterMap_cons, a, b]
      exact .cons c (pick_vals h is)
theorem rps_or {K : PySem.W.Frag} {W : Wd} {H : Hp} {vs : List V} {ds : List D} (h : Rps K W H vs ds) (i : Nat) : (vs[i]? = none ∧ ds[i]? = none) ∨ ∃ v d, vs[i]? = some v ∧ ds[i]? = some d ∧ Rp K W H v d := by
  cases q : ds[i]? with
  | none =>
    refine .inl ⟨?_, rfl⟩
    rw [List.getElem?_eq_none_iff] at q ⊢
    rw [h.length]
    exact q
  | some d =>
    obtain ⟨v, a, b⟩ := h.get q
    exact .inr ⟨v, d, a, rfl, b⟩
theorem pick_rps {K : PySem.W.Frag} {W : Wd} {H : Hp} {vs : List V} {ds : List D} (h : Rps K W H vs ds) : ∀ is : List Nat, Rps K W H (pick is vs) (pick is ds)
  | [] => .nil
  | i :: is => by
    unfold pick
    rcases rps_or h i with ⟨a, b⟩ | ⟨v, d, a, b, c⟩
    · rw [List.filterMap_cons, List.filterMap_cons, a, b]
      exact pick_rps h is
    · rw [List.filterMap_cons, List.filterMap_cons, a, b]
      exact .cons c (pick_rps h is)
/-- keywords named ks put in the parameters' order by the places is -/
theorem kbn_mk {K : PySem.W.Frag} {x qual : Str} {st : Stmt} {f : Addr} {fd : FuncData} {ps : List Str} (F : Fun K x qual st f fd) (ks : List Str) (is : List Nat)
    (h : ∀ (kV doc pm : Value) (an : Option Addr) (cdv ct : Value) (ws : List Value), ws.length = ks.length → bindArgs (PySem.W.fnOf x qual (defArgs st) (defBody st) (defScope st) .none kV doc pm an cdv ct) ⟨[], ks.zip ws⟩ = pure (ps.zip (pick is ws))) :
    KBn K fd ps 0 ks (fun _ ws => pick is ws) (fun _ zs => pick is zs) := by
  obtain ⟨oc, od, kV, doc, pm, an, cdv, ct, osl, rfl, lk, hcd⟩ := F.ex
  refine ⟨fun s us ws _ hu hw => ?_, fun _ rz => pick_vals rz is⟩
  obtain rfl : us = [] := List.length_eq_zero_iff.mp hu
  exact .of_eq (h kV doc pm an cdv ct ws hw)
section
variable {X : Cx} {k : Nat} {f : Addr} {fd : FuncData} {ps ks : List Str} {is : List Nat} {F : FDen} {E : XK} {x : Str} {p pos kpos : Pos} {kws : List Keyword} {nm : Option Str} {e : Expr} {te : EDen} {tr : ADen}
theorem imK {t t' : TA} (h : PK X kws t) (q : ∀ σ H Q, t' σ H Q → t σ H Q) : PK X kws t' := ⟨fun pos pins s σ H Q I w => h.run pos pins s σ H Q I (q _ _ _ w)⟩
theorem dk_nil : PK X [] (tAD X.K E nilP) := by
  refine imK pk_nil fun σ H Q h => ?_
  obtain ⟨W, st0, h⟩ := h
  exact h.ret (fun _ => rfl) [] .nil
theorem dk_cons (ha : PE X e (tD X.K E te)) (hr : PK X kws (tAD X.K E tr)) : PK X (⟨nm, e, kpos⟩ :: kws) (tAD X.K E (consP te tr)) := by
  refine imK (pk_cons ha hr) fun σ H Q h => ?_
  obtain ⟨W, st0, h⟩ := h
  refine ⟨W, st0, h.seq.mono fun d st1 W1 H1 e1 i1 q v rv => ?_⟩
  refine ⟨W1, st1, q.2.seq.mono fun ds st2 W2 H2 e2 i2 q2 vs rs => ?_⟩
  exact q2.2.ret (fun _ => rfl) _ (.cons (rv.to e2) rs)
def tKw (m : Nat) (sp : Sp) (gV : List V → List V → List V) (E : XK) (tk : TA) : TE := fun σ H Q => tk σ H fun zs H2 => zs.length = m ∧ sp (gV [] zs) H2 Q E
theorem pe_kw0 {sp : Sp} {CX : CXT} {tk : TA} {g : List Value → List Value → List Value} {gV : List V → List V → List V} (F : FnOk X.prog X.w X.K X.mg X.base CX k f fd ps sp) (hr : Room k X.A) (hg : Gl X x) (hm : X.mg x = some (.ref f)) (hk : PySem.W.keepIn X.K (.ref f) = true)
    (hb : KBn X.K fd ps 0 ks g gV) (hx : Passes CX X E) (hkw : PK X kws tk) (hall : (backToKw pos (keywordEach kws X.env)).all (·.1.isSome) = true) (hks : (backToKw pos (keywordEach kws X.env)).filterMap (·.1) = ks)
    (hdb : (x == ("__debug__" : Str)) = false) (hpl : ((backTo pos (starEach [] X.env)).any (·.1) || (backToKw pos (keywordEach kws X.env)).any (·.1.isNone)) = false) : PE X (.Call (.Name x p) [] kws pos) (tKw ks.length sp gV E tk) := by
  refine ⟨fun pins s σ H Q I h => wpAny_Call_Name_kw (ld_glob I hg hm ?_ hdb)⟩
  refine PySem.W.callWith_KW0 (h₀ := X.base) I.ok.mod.kin hk hall (thn (hkw.run pos pins s σ H _ I h) fun ws s2 ⟨zs, H2, I2, rz, l2, q2⟩ => ⟨I2.kIn, ?_⟩) hpl
  rw [hks]
  exact run_fnN (us := []) (vs := []) F hr hb hx I2 .nil rz rfl l2 q2
def kwF (m : Nat) (is : List Nat) (F : FDen) : FDen := fun ds st => if ds.length = m then F (pick is ds) st else none
theorem de_callK0 (G : FnOk X.prog X.w X.K X.mg X.base (L2.CX X.prog X.w) k f fd ps (spF X.K F)) (hr : Room k X.A) (hm : X.mg x = some (.ref f)) (hk : PySem.W.keepIn X.K (.ref f) = true) (hb : KBn X.K fd ps 0 ks (fun _ ws => pick is ws) (fun _ zs => pick is zs))
    (hx : Passes (L2.CX X.prog X.w) X E) (hkw : PK X kws (tAD X.K E tr)) (hg : Gl X x := by rfl) (hall : (backToKw pos (keywordEach kws X.env)).all (·.1.isSome) = true := by rfl) (hks : (backToKw pos (keywordEach kws X.env)).filterMap (·.1) = ks := by rfl)
    (hdb : (x == ("__debug__" : Str)) = false := by decide) (hpl : ((backTo pos (starEach [] X.env)).any (·.1) || (backToKw pos (keywordEach kws X.env)).any (·.1.isNone)) = false := by rfl) :
    PE X (.Call (.Name x p) [] kws pos) (tD X.K E (callP (kwF ks.length is F) tr)) := by
  refine imE (pe_kw0 G hr hg hm hk hb hx hkw hall hks hdb hpl) fun σ H Q h => ?_
  obtain ⟨W, st0, h⟩ := h
  refine ⟨W, st0, (h.seq (k := fun ds _ st => kwF ks.length is F ds st)).mono fun ds st1 W1 H1 e1 i1 q vs rs => ?_⟩
  obtain ⟨Δ, r, st', L, I, e, w⟩ := q.2
  replace e : kwF ks.length is F ds st1 = some (r, st') := e
  unfold kwF at e
  split at e
  · rename_i hl
    exact ⟨by rw [rs.length]; exact hl, W1, _, st1, r, st', pick_rps rs is, I, e, w⟩
  · cases e
end

/-! ### the bag is made -/
def bagF (n0 : Int) : FDen := fun ds st => match ds, st.scr, st.bag with
  | [.opq (.ref a)], some (b, ns), none => if a = b ∧ ns.length ≤ 63 then some (.ok (.hnd 0), { st with bag := some ⟨ns, 0, 0, n0 + ns.length, 0⟩ }) else none
  | _, _, _ => none
section
variable {P : Program} {w : World} {K : PySem.W.Frag} {mg : Str → Option Value} {base : Heap} {f : Addr} {fd : FuncData} {st : Stmt}
theorem scr_seq {W : Wd} {H : Hp} {a : Addr} {ns : List Int} (h : ScrAt K W H a ns) : SqL K H a (ns.map V.int) := by
  rcases h with ⟨_, h⟩ | h
  · exact .inl h
  · exact .inr h
theorem ok_bag (n0 : Int) {p1 p2 p3 p4 p5 p6 q1 q2 q3 q4 q5 q6 q7 q8 q9 : Pos} {k2p : Pos} {j1 j2 j3 j4 j5 : Nat} (G : Fun K "_law_bag" "_law_bag" st f fd) (S : FnScope ["_law_script"] ["_law_script"] (defScope st)) (m1 : mg "list" = none) (m2 : mg "len" = none)
    (v0 : (defScope st).names.lookup ("_law_script" : Str) = some NameKind.local) (v1 : (defScope st).names.lookup ("list" : Str) = some NameKind.globalImplicit) (v2 : (defScope st).names.lookup ("len" : Str) = some NameKind.globalImplicit)
    (hB : defBody st = [.Return (some (.List [.Call (.Name "list" p1) [.Subscript (.Name "_law_script" p2) (.Slice none (some (.Constant (.int 63) j1 p3)) none p4) p5] [] p6, .Constant (.int 0) j2 q1, .Constant (.int 0) j3 q2,
      .BinOp (.Constant (.int n0) j4 q3) .Add (.Call (.Name "len" q4) [.Name "_law_script" q5] [] q6) q7, .Constant (.int 0) j5 q8] q9)) k2p]) : FnOk P w K mg base (L2.CX P w) 1 f fd ["_law_script"] (spF K (bagF n0)) := by
  refine G.okX S (fun vs H Q E h => ?_) (fun cdv A outer s H vs Q E hr h => ?_)
  · obtain ⟨W, ds, st, r, st', rs, iv, e, _⟩ := h
    unfold bagF at e
    split at e
    · rw [rs.length]; rfl
    · cases e
  · obtain ⟨W, ds, st0, r, st', rs, iv, e, wn⟩ := h
    rw [hB]
    refine ⟨_, pss_one (ps_ret (pe_lst (pa_cons (pe_callTy call_list_of (show Gl _ _ from v1) m1 PyProof.Rows.boot_list (pa_cons (pe_slice sl_list (pv 0 (hv := .inl v0)) po_none (po_some pe_int)) pa_nil)) (pa_cons pe_int (pa_cons pe_int
      (pa_cons (pe_op op_add pe_int (pe_callB call_len_seq (show Gl _ _ from v2) m2 PySem.boot_len (pa_cons (pv 0 (hv := .inl v0)) pa_nil))) (pa_cons pe_int pa_nil))))))), ?_⟩
    unfold bagF at e
    split at e
    · rename_i a b ns es ec
      split at e
      · rename_i cd
        obtain ⟨rfl, h63⟩ := cd
        cases e
        have sc := iv.scr a ns es
        have sq := scr_seq sc
        cases rs with
        | cons r1 r2 =>
          cases r1
          cases r2
          refine ⟨.ref a, rfl, 63, rfl, a, ns.map V.int, rfl, sq, fun c nc => ?_⟩
          have cut : cutV (ns.map V.int) none (some 63) = ns.map V.int := by
            unfold cutV
            rw [HT.sIx_none, show HT.sIx (ns.map V.int).length (ns.map V.int).length (some 63) = min 63 (ns.map V.int).length from HT.sIx_nat _ _ 63, List.drop_zero, Nat.sub_zero, List.length_map, Nat.min_eq_right h63, List.take_of_length_le (by rw [List.length_map] <;> exact Nat.le_refl _)]
          refine ⟨c, _, rfl, .inl (.inl (.inl upd_same)), fun l nl => ?_⟩
          rw [cut] at nl ⊢
          have s1 : Same H (upd H c (.lst (ns.map V.int))) := same_new nc
          have s2 : Same H (upd (upd H c (.lst (ns.map V.int))) l (.lst (ns.map V.int))) := fun x u e => same_new nl x u (s1 x u e)
          refine ⟨.ref a, rfl, a, ns.map V.int, rfl, .inl (s2.seq sq), n0, (ns.map V.int).length, rfl, rfl, Nat.le_trans (show 5 ≤ 64 by decide) (by rw [sizeLine_eq]; omega), fun b nb => ?_⟩
          rw [List.length_map]
          generalize hG : upd (upd H c (.lst (ns.map V.int))) l (.lst (ns.map V.int)) = G0 at nb s2 ⊢
          have s3 : Same H (upd G0 b (.lst [.ref l, .int 0, .int 0, .int (n0 + ns.length), .int 0])) := fun x u e => same_new nb x u (s2 x u e)
          have nHb : H b = none := by
            cases q : H b with
            | none => rfl
            | some o => rw [s2 b o q] at nb; cases nb
          have nHl : H l = none := by
            cases q : H l with
            | none => rfl
            | some o => rw [s1 l o q] at nl; cases nl
          have gl : G0 l = some (.lst (ns.map V.int)) := by rw [← hG, upd_same]
          have lb : l ≠ b := fun z => by rw [z, nb] at gl; cases gl
          let W1 : Wd := ⟨fun x => W.M x ∨ x = b, fun x => W.N x ∨ x = b, fun n => if n = 0 then some b else W.h n, fun x h => h.imp (W.sub x) id⟩
          have dom0 := iv.dom ec
          have h1' : ∀ n x, W.h n = some x → W1.h n = some x := fun n x e => by
            have nz : n ≠ 0 := fun z => by rw [z, dom0] at e; cases e
            show (if n = 0 then some b else W.h n) = some x
            rw [if_neg nz]
            exact e
          have h0' : W1.h 0 = some b := rfl
          have back : ∀ n x, n ≠ 0 → W1.h n = some x → W.h n = some x := fun n x nz e => by
            have e' : (if n = 0 then some b else W.h n) = some x := e
            rw [if_neg nz] at e'
            exact e'
          have fresh : ∀ n, W.h n ≠ some b := fun n e => iv.hdl n b e nHb
          have le : Le W H W1 (upd G0 b (.lst [.ref l, .int 0, .int 0, .int (n0 + ns.length), .int 0])) := by
            refine ⟨fun x o _ e => s3 x o e, fun x h => ?_, fun x h => ?_, fun x h => .inl h, h1', fun n x e => ?_, same_some s3⟩
            · rcases h with h | h
              · exact .inl h
              · exact .inr (by rw [h]; exact nHb)
            · rcases h with h | h
              · exact .inl h
              · exact .inr (by rw [h]; exact nHb)
            · by_cases z1 : n = 0
              · rw [z1, h0'] at e
                cases e
                exact .inr nHb
              · exact .inl (back n x z1 e)
          have ne_b : ∀ x, H x ≠ none → x ≠ b := fun x h z => h (by rw [z]; exact nHb)
          have sm : ∀ x, H x ≠ none → (upd G0 b (.lst [.ref l, .int 0, .int 0, .int (n0 + ns.length), .int 0])) x ≠ none := fun x h => by
            cases q : H x with
            | none => exact absurd q h
            | some o => rw [s3 x o q]; exact fun z => nomatch z
          refine wn W1 _ le ⟨fun x h => ?_, fun n m x e1 e2 => ?_, fun n x e => ?_, (fun z => nomatch z), fun s h => ?_, fun x zs h => ?_, fun n c h => ?_, fun n x e => ?_⟩ _ (.hnd 0 h0')
          · rcases h with h | h
            · exact sm x (iv.there x h)
            · rw [h, upd_same]; exact fun z => nomatch z
          · by_cases z1 : n = 0
            · by_cases z2 : m = 0
              · rw [z1, z2]
              · rw [z1, h0'] at e1
                cases e1
                exact absurd (back m _ z2 e2) (fresh m)
            · by_cases z2 : m = 0
              · rw [z2, h0'] at e2
                cases e2
                exact absurd (back n _ z1 e1) (fresh n)
              · exact iv.inj n m x (back n x z1 e1) (back m x z2 e2)
          · by_cases z1 : n = 0
            · rw [z1, h0'] at e
              cases e
              rw [upd_same]; exact fun z => nomatch z
            · exact sm x (iv.hdl n x (back n x z1 e))
          · cases h
            refine ⟨b, h0', .inr rfl, l, fun z => ?_, by rw [upd_ne lb]; exact gl, upd_same⟩
            rcases z with z | z
            · exact iv.there l z nHl
            · exact lb z
          · have h2 := iv.scr x zs h
            rcases h2 with ⟨h3, h4⟩ | h4
            · have hx : H x ≠ none := by
                rcases h4 with q | ⟨u, q⟩
                · rw [q]; exact fun z => nomatch z
                · rw [q]; exact fun z => nomatch z
              refine .inl ⟨fun z => z.elim h3 (ne_b x hx), ?_⟩
              rcases h4 with q | ⟨u, q⟩
              · exact .inl (s3 _ _ q)
              · exact .inr ⟨u, s3 _ _ q⟩
            · exact .inr h4
          · obtain ⟨hz, p, g1, g2, g3⟩ := iv.own n c h
            obtain ⟨o, ho⟩ := g3.there
            exact ⟨hz, p, h1' n p g1, .inl g2, g3.tow le.w ((s3 _ _ ho).trans ho.symm)⟩
          · by_cases z1 : n = 0
            · exact Nat.le_trans (Nat.le_of_eq z1) (Nat.zero_le _)
            · exact iv.bd n x (back n x z1 e)
      · cases e
    · cases e
end
end Dn
namespace Dn
open PySem PySem.Spec PyProof.Rows L2
/-- a def called with as many values as it has parameters -/
def gd (n : Nat) (g : FDen) : FDen := fun ds st => if ds.length = n then g ds st else none
theorem gd_len {n : Nat} {g : FDen} (ds : List D) (st : Sta) (r : Except Exc D × Sta) (h : gd n g ds st = some r) : ds.length = n := by
  unfold gd at h
  split at h
  · assumption
  · cases h
theorem gd_run {n : Nat} {g : FDen} (ds : List D) (st : Sta) (r : Except Exc D × Sta) (h : gd n g ds st = some r) : g ds st = some r := by
  unfold gd at h
  split at h
  · exact h
  · cases h
end Dn
namespace Dn
open PySem PySem.Spec PyProof.Rows L2
theorem fn_void {P : Program} {w : World} {K : PySem.W.Frag} {mg : Str → Option Value} {base : Heap} {CX : CXT} {k : Nat} {f : Addr} {fd : FuncData} {ps : List Str} : FnOk P w K mg base CX k f fd ps (spF K fun _ _ => none) :=
  ⟨fun _ _ _ _ h => (by obtain ⟨_, _, _, _, _, _, _, e, _⟩ := h; cases e), fun _ _ _ _ _ _ _ _ _ _ _ _ _ h => (by obtain ⟨_, _, _, _, _, _, _, e, _⟩ := h; cases e)⟩
end Dn

set_option Elab.async false
set_option linter.all false
set_option maxRecDepth 100000
set_option maxHeartbeats 4000000
namespace Dn
open PySem PySem.Spec PyProof.Rows L2
/-! ### objects of an own class: fields -/
def lkD (f : Str) : List Str → List D → Option D
  | n :: ns, d :: ds => if n = f then some d else lkD f ns ds
  | _, _ => none
def ptD (f : Str) (d : D) : List Str → List D → List Str × List D
  | n :: ns, x :: ds => if n = f then (n :: ns, d :: ds) else (n :: (ptD f d ns ds).1, x :: (ptD f d ns ds).2)
  | _, _ => ([f], [d])
def Sta.look (st : Sta) (n : Nat) : Option Cell := (st.own.find? fun p => p.1 == n).map (·.2)
def Sta.drop (st : Sta) (n : Nat) : Sta := { st with own := st.own.filter fun p => p.1 != n }
def Sta.put (st : Sta) (n : Nat) (c : Cell) : Sta := { st with own := (n, c) :: (st.own.filter fun p => p.1 != n) }
section
variable {K : PySem.W.Frag} {W W' : Wd} {H H' : Hp} {st : Sta}
theorem look_mem {n : Nat} {c : Cell} (h : st.look n = some c) : (n, c) ∈ st.own := by
  unfold Sta.look at h
  cases q : st.own.find? fun p => p.1 == n with
  | none => rw [q] at h; cases h
  | some p =>
    rw [q] at h
    cases h
    have e : p.1 = n := by
      have := List.find?_some q
      simpa using this
    have m := List.mem_of_find?_eq_some q
    rw [← e]
    exact m
theorem lk_of {f : Str} : ∀ {ns : List Str} {ds : List D} {fs : List (Str × V)} {d : D}, fs.map (·.1) = ns → Rps K W H (fs.map (·.2)) ds → lkD f ns ds = some d → ∃ v, fs.lookup f = some v ∧ Rp K W H v d
  | [], _, _, _, _, _, h => by simp [lkD] at h
  | _ :: _, [], _, _, _, _, h => by simp [lkD] at h
  | n :: ns, x :: ds, fs, d, e, r, h => by
    cases fs with
    | nil => cases e
    | cons p fs =>
      obtain ⟨g, v⟩ := p
      rw [List.map_cons] at e r
      injection e with e1 e2
      simp only at e1
      cases r with
      | cons r1 r2 =>
        unfold lkD at h
        by_cases c : n = f
        · rw [if_pos c] at h
          cases h
          refine ⟨v, ?_, r1⟩
          rw [List.lookup_cons, e1, c]
          simp
        · rw [if_neg c] at h
          obtain ⟨v', h1, h2⟩ := lk_of e2 r2 h
          refine ⟨v', ?_, h2⟩
          rw [List.lookup_cons, e1]
          have : (f == n) = false := beq_eq_false_iff_ne.mpr fun z => c z.symm
          rw [this]
          exact h1
theorem lk_none {f : Str} : ∀ {ns : List Str} {fs : List (Str × V)}, fs.map (·.1) = ns → f ∉ ns → fs.lookup f = none
  | [], [], _, _ => rfl
  | [], _ :: _, e, _ => by cases e
  | _ :: _, [], e, _ => by cases e
  | n :: ns, (g, v) :: fs, e, h => by
    injection e with e1 e2
    simp only at e1
    rw [List.lookup_cons, e1]
    have : (f == n) = false := beq_eq_false_iff_ne.mpr fun z => h (by rw [z]; exact List.mem_cons_self)
    rw [this]
    exact lk_none e2 fun z => h (List.mem_cons_of_mem _ z)
theorem pt_of {f : Str} {v : V} {d : D} (rv : Rp K W H v d) : ∀ {ns : List Str} {ds : List D} {fs : List (Str × V)}, fs.map (·.1) = ns → Rps K W H (fs.map (·.2)) ds →
    (putF f v fs).map (·.1) = (ptD f d ns ds).1 ∧ Rps K W H ((putF f v fs).map (·.2)) (ptD f d ns ds).2
  | [], ds, fs, e, r => by
    cases fs with
    | nil =>
      cases r
      exact ⟨rfl, .cons rv .nil⟩
    | cons _ _ => cases e
  | n :: ns, ds, fs, e, r => by
    cases fs with
    | nil => cases e
    | cons p fs =>
      obtain ⟨g, u⟩ := p
      injection e with e1 e2
      simp only at e1
      subst e1
      cases r with
      | cons r1 r2 =>
        by_cases c : g = f
        · unfold putF ptD
          rw [if_pos c, if_pos c]
          exact ⟨congrArg (g :: ·) e2, .cons rv r2⟩
        · obtain ⟨h1, h2⟩ := pt_of rv e2 r2
          unfold putF ptD
          rw [if_neg c, if_neg c]
          exact ⟨congrArg (g :: ·) h1, .cons r1 h2⟩
/-- what a value shows as an object of the class C -/
def insOf (st : Sta) (C : Addr) : D → Option (List Str × List D)
  | .obj C' ns ds => if C' = C then some (ns, ds) else none
  | .hnd n => match st.look n with
    | some (.ins C' ns ds) => if C' = C then some (ns, ds) else none
    | _ => none
  | _ => none
theorem ins_of {C : Addr} {v : V} {d : D} {ns : List Str} {ds : List D} (I : Holds K W H st) (r : Rp K W H v d) (h : insOf st C d = some (ns, ds)) : ∃ a dx fs, v = .ref a ∧ H a = some (.ins C dx fs) ∧ fs.map (·.1) = ns ∧ Rps K W H (fs.map (·.2)) ds := by
  unfold insOf at h
  split at h
  · split at h
    · rename_i c
      cases h
      subst c
      cases r with
      | obj n s z q => exact ⟨_, _, _, rfl, s, z, q⟩
    · cases h
  · split at h
    · split at h
      · rename_i c
        cases h
        subst c
        rename_i n C' ns' ds' hl
        obtain ⟨_, p, h1, h2, dx, fs, h3, h4, h5⟩ := I.own _ _ (look_mem hl)
        cases r with
        | hnd n e =>
          rw [h1] at e
          cases e
          exact ⟨_, dx, fs, rfl, h3, h4, h5⟩
      · cases h
    · cases h
  · cases h
end
def fldP (C : Addr) (f : Str) (te : EDen) : EDen := fun Δ st => bd (te Δ st) fun d st1 => ((insOf st1 C d).bind fun p => lkD f p.1 p.2).map fun r => (.ok r, st1)
section
variable {X : Cx} {E : XK} {e : Expr} {te : EDen} {C : Addr} {f : Str} {pos : Pos}
theorem de_fld (c : Cls X.K C) (n : NoAttr X.K C f) (he : PE X e (tD X.K E te)) (hb : attributeBase e f X.env (eval e X.env) = eval e X.env := by rfl) : PE X (.Attribute e f pos) (tD X.K E (fldP C f te)) := by
  refine imE (pe_fld he hb) fun σ H Q h => ?_
  obtain ⟨W, st0, h⟩ := h
  refine ⟨W, st0, h.seq.mono fun d st1 W1 H1 e1 i1 q v rv => ?_⟩
  obtain ⟨Δ, r, L, I, hr, k⟩ := q.2.val (m := fun _ => (insOf st1 C d).bind fun p => lkD f p.1 p.2)
  cases hi : insOf st1 C d with
  | none => rw [hi] at hr; cases hr
  | some p =>
    rw [hi] at hr
    obtain ⟨a, dx, fs, rfl, h1, h2, h3⟩ := ins_of I rv hi
    obtain ⟨u, h4, h5⟩ := lk_of h2 h3 hr
    exact ⟨a, C, dx, fs, u, rfl, h1, c, n, h4, k W1 H1 (Le.refl _ _) I u h5⟩
end

section
variable {K : PySem.W.Frag} {W : Wd} {H : Hp} {st : Sta} {p : Addr}
theorem le_updM {o : HO} (m : W.M p) : Le W H W (upd H p o) := ⟨fun a u n h => by rw [upd_ne (fun e => n (by rw [e]; exact m))]; exact h, fun _ h => .inl h, fun _ h => .inl h, fun _ h => h, fun _ _ h => h, fun _ _ h => .inl h, fun a h z => by
  by_cases hp : a = p
  · subst hp; rw [upd_same] at z; cases z
  · rw [upd_ne hp] at z; exact h z⟩
/-- one of the state's own things changes -/
theorem Holds.ownUpd {n : Nat} {c c' : Cell} {o : HO} (I : Holds K W H st) (hm : (n, c) ∈ st.own) (hh : W.h n = some p) (hM : W.M p) (hc : CellAt K W (upd H p o) p c') : Holds K W (upd H p o) (st.put n c') := by
  have hN := W.sub _ hM
  have le := le_updM (H := H) (o := o) hM
  have n0 : n ≠ 0 := (I.own n c hm).1
  refine ⟨fun a z => le.stay a (I.there a z), I.inj, fun m a z => le.stay a (I.hdl m a z), I.dom, fun s h => ?_, fun a ns h => ?_, fun m c2 h => ?_, I.bd⟩
  · obtain ⟨b, h1, h2, l, h3, h4, h5⟩ := I.bag s h
    have bp : b ≠ p := fun e => n0 (I.inj n 0 p hh (e ▸ h1))
    have lp : l ≠ p := fun e => h3 (e ▸ hN)
    exact ⟨b, h1, h2, l, h3, by rw [upd_ne lp]; exact h4, by rw [upd_ne bp]; exact h5⟩
  · rcases I.scr a ns h with ⟨h2, h3⟩ | h3
    · have ap : a ≠ p := fun e => h2 (by rw [e]; exact hN)
      refine .inl ⟨h2, ?_⟩
      rcases h3 with q | ⟨u, q⟩
      · exact .inl (by rw [upd_ne ap]; exact q)
      · exact .inr ⟨u, by rw [upd_ne ap]; exact q⟩
    · exact .inr h3
  · rcases List.mem_cons.mp h with e | h
    · cases e
      exact ⟨n0, p, hh, hM, hc⟩
    · have hmem := (List.mem_filter.mp h).1
      have hne : m ≠ n := by simpa using (List.mem_filter.mp h).2
      obtain ⟨h0, q, h1, h2, h3⟩ := I.own m c2 hmem
      have qp : q ≠ p := fun e => hne (I.inj m n p (e ▸ h1) hh)
      exact ⟨h0, q, h1, h2, h3.tow le.w (upd_ne qp)⟩
end
/-- o.f = e, o one of the state's own objects -/
def fstP (C : Addr) (f : Str) (to te : EDen) : SDen := fun Δ st => bd (te Δ st) fun d st1 => bd (to Δ st1) fun o st2 => match o with
  | .hnd n => match st2.look n with
    | some (.ins C' ns ds) => if C' = C ∧ ns.length < 1000 then some (.ok (.nx Δ), st2.put n (.ins C (ptD f d ns ds).1 (ptD f d ns ds).2)) else none
    | _ => none
  | _ => none
section
variable {X : Cx} {E : XK} {o e : Expr} {to te : EDen} {C : Addr} {f : Str} {pos pos' : Pos}
theorem ds_fld (c : Cls X.K C) (na : NoAttr X.K C f) (ho : PE X o (tD X.K E to)) (he : PE X e (tD X.K E te)) (hs : swapsWith e (some (.Attribute o f pos')) pos.line X.env = pure false := by rfl) : PS X (.Assign [.Attribute o f pos'] e pos) (tSD X.K E (fstP C f to te)) := by
  refine imS (ps_fld ho he hs) fun D σ H h => ?_
  obtain ⟨W, st0, h⟩ := h
  refine ⟨W, st0, h.seq.mono fun d st1 W1 H1 e1 i1 q v rv => ?_⟩
  refine ⟨W1, st1, q.2.seq.mono fun x st2 W2 H2 e2 i2 q2 u ru => ?_⟩
  obtain ⟨Δ, r, st', L, I, eq, k⟩ := q2.2
  simp only at eq
  split at eq
  · rename_i n
    split at eq
    · rename_i C' ns ds hl
      split at eq
      · rename_i hc
        cases eq
        obtain ⟨rfl, few⟩ := hc
        have hm := look_mem hl
        obtain ⟨n0, p, h1, h2, dx, fs, h3, h4, h5⟩ := I.own _ _ hm
        cases ru with
        | hnd n hh =>
          rw [h1] at hh
          cases hh
          have fl : fs.length < 1000 := by
            have := congrArg List.length h4
            rw [List.length_map] at this
            omega
          refine ⟨p, C', dx, fs, rfl, h3, c, na, fl, ?_⟩
          obtain ⟨g1, g2⟩ := pt_of (rv.to e2) h4 h5
          have le := le_updM (H := H2) (o := .ins C' dx (putF f v fs)) h2
          exact k W2 _ le (I.ownUpd hm h1 h2 ⟨dx, putF f v fs, upd_same, g1, g2.to le⟩) σ (L.to le)
      · cases eq
    · cases eq
  · cases eq
end
/-! ### making -/
def Wd.addO (W : Wd) (n : Nat) (x : Addr) : Wd := ⟨fun a => W.M a ∨ a = x, fun a => W.N a ∨ a = x, fun m => if m = n then some x else W.h m, fun a h => h.imp (W.sub a) id⟩
def Wd.delO (W : Wd) (x : Addr) : Wd := ⟨fun a => W.M a ∧ a ≠ x, fun a => W.N a ∧ a ≠ x, W.h, fun a h => ⟨W.sub a h.1, h.2⟩⟩
section
variable {K : PySem.W.Frag} {W W' : Wd} {H H' : Hp} {st : Sta} {x : Addr} {n : Nat}
theorem le_addO (I : Holds K W H st) (e : Same H H') (nx : H x = none) (hn : st.next < n) : Le W H (W.addO n x) H' := by
  refine ⟨fun a o _ h => e a o h, fun a h => ?_, fun a h => ?_, fun a h => .inl h, fun m a h => ?_, fun m a h => ?_, same_some e⟩
  · rcases h with h | h
    · exact .inl h
    · exact .inr (by rw [h]; exact nx)
  · rcases h with h | h
    · exact .inl h
    · exact .inr (by rw [h]; exact nx)
  · have := I.bd m a h
    show (if m = n then some x else W.h m) = some a
    rw [if_neg (by omega)]
    exact h
  · have h' : (if m = n then some x else W.h m) = some a := h
    by_cases c : m = n
    · rw [if_pos c] at h'
      cases h'
      exact .inr nx
    · rw [if_neg c] at h'
      exact .inl h'
theorem Holds.addO {c : Cell} (I : Holds K W H st) (e : Same H H') (nx : H x = none) (hn : n = st.next + 1) (hc : CellAt K (W.addO n x) H' x c) : Holds K (W.addO n x) H' { st with own := (n, c) :: st.own, next := n } := by
  have le := le_addO I e nx (by omega : st.next < n)
  have back : ∀ m a, m ≠ n → (W.addO n x).h m = some a → W.h m = some a := fun m a hm h => by
    have h' : (if m = n then some x else W.h m) = some a := h
    rw [if_neg hm] at h'
    exact h'
  have new : (W.addO n x).h n = some x := if_pos rfl
  have ox : ∃ o, H' x = some o := hc.there
  have fresh : ∀ m, W.h m ≠ some x := fun m h => I.hdl m x h nx
  refine ⟨fun a h => ?_, fun m k a h1 h2 => ?_, fun m a h => ?_, fun z => ?_, fun s h => ?_, fun a ns h => ?_, fun m c2 h => ?_, fun m a h => ?_⟩
  · rcases h with h | h
    · exact same_some e a (I.there a h)
    · obtain ⟨o, ho⟩ := ox
      rw [h, ho]; exact fun z => nomatch z
  · by_cases c1 : m = n
    · by_cases c2 : k = n
      · rw [c1, c2]
      · rw [c1, new] at h1
        cases h1
        exact absurd (back k _ c2 h2) (fresh k)
    · by_cases c2 : k = n
      · rw [c2, new] at h2
        cases h2
        exact absurd (back m _ c1 h1) (fresh m)
      · exact I.inj m k a (back m a c1 h1) (back k a c2 h2)
  · by_cases c1 : m = n
    · rw [c1, new] at h
      cases h
      obtain ⟨o, ho⟩ := ox
      rw [ho]; exact fun z => nomatch z
    · exact same_some e a (I.hdl m a (back m a c1 h))
  · show (if 0 = n then some x else W.h 0) = none
    rw [if_neg (by omega)]
    exact I.dom z
  · obtain ⟨b, h1, h2, l, h3, h4, h5⟩ := I.bag s h
    refine ⟨b, le.hh 0 b h1, .inl h2, l, fun z => ?_, e _ _ h4, e _ _ h5⟩
    rcases z with z | z
    · exact h3 z
    · rw [z, nx] at h4; cases h4
  · rcases I.scr a ns h with ⟨h2, h3⟩ | h3
    · refine .inl ⟨fun z => ?_, rd_same e h3⟩
      rcases z with z | z
      · exact h2 z
      · exact rd_some h3 (by rw [z]; exact nx)
    · exact .inr h3
  · rcases List.mem_cons.mp h with q | h
    · cases q
      exact ⟨by omega, x, new, .inr rfl, hc⟩
    · obtain ⟨h0, p, h1, h2, h3⟩ := I.own m c2 h
      obtain ⟨o, ho⟩ := h3.there
      exact ⟨h0, p, le.hh m p h1, .inl h2, h3.tow le.w ((e _ _ ho).trans ho.symm)⟩
  · show m ≤ n
    by_cases c1 : m = n
    · omega
    · have := I.bd m a (back m a c1 h)
      omega
theorem lw_delO : Lw W H (W.delO x) H := ⟨fun _ _ _ h => h, fun _ h => .inl h.1, fun _ _ h => h⟩
theorem Le.delO {W0 : Wd} {H0 : Hp} (e : Le W0 H0 W H) (n : ¬ W0.N x) : Le W0 H0 (W.delO x) H :=
  ⟨e.ext, fun a h => e.newM a h.1, fun a h => e.newN a h.1, fun a h => ⟨e.keep a h, fun z => n (by rw [← z]; exact h)⟩, e.hh, e.newH, e.stay⟩
/-- one of the state's own things is plain data from now on -/
theorem Holds.delO (I : Holds K W H st) (hh : W.h n = some x) (n0 : n ≠ 0) : Holds K (W.delO x) H (st.drop n) := by
  refine ⟨fun a h => I.there a h.1, I.inj, I.hdl, I.dom, fun s h => ?_, fun a ns h => ?_, fun m c h => ?_, I.bd⟩
  · obtain ⟨b, h1, h2, l, h3, h4, h5⟩ := I.bag s h
    exact ⟨b, h1, ⟨h2, fun e => n0 (I.inj n 0 x hh (e ▸ h1))⟩, l, fun z => h3 z.1, h4, h5⟩
  · rcases I.scr a ns h with ⟨h2, h3⟩ | h3
    · exact .inl ⟨fun z => h2 z.1, h3⟩
    · exact .inr h3
  · have hmem := (List.mem_filter.mp h).1
    have hne : m ≠ n := by simpa using (List.mem_filter.mp h).2
    obtain ⟨h0, p, h1, h2, h3⟩ := I.own m c hmem
    exact ⟨h0, p, h1, ⟨h2, fun e => hne (I.inj m n x (e ▸ h1) hh)⟩, h3.tow lw_delO rfl⟩
end
end Dn

set_option Elab.async false
set_option linter.all false
set_option maxRecDepth 100000
set_option maxHeartbeats 4000000
namespace Dn
open PySem PySem.Spec PyProof.Rows L2
/-- C(..): __init__ run on a new object, which is plain data behind it -/
def mkF (C : Addr) (F : FDen) : FDen := fun ds st => match F (.hnd (st.next + 1) :: ds) { st with own := (st.next + 1, .ins C [] []) :: st.own, next := st.next + 1 } with
  | some (.ok .non, st') => (match st'.look (st.next + 1) with
    | some (.ins C' ns es) => if C' = C then some (.ok (.obj C ns es), st'.drop (st.next + 1)) else none
    | _ => none)
  | some (.error x, st') => some (.error x, st')
  | _ => none
section
variable {K : PySem.W.Frag} {W : Wd} {H : Hp} {st : Sta} {C : Addr} {F : FDen} {E : XK}
theorem mk_core {vs : List V} {ds : List D} {r : Except Exc D} {st2 : Sta} {Q : VK} {x dx : Addr} (rs : Rps K W H vs ds) (I : Holds K W H st) (e : mkF C F ds st = some (r, st2)) (w : Wnt K W E H (fun d _ W' H' => ∀ v, Rp K W' H' v d → Q v H') r st2)
    (nx : H x = none) (ndx : H dx = none) (ne : dx ≠ x) : spF K F (.ref x :: vs) (upd (upd H dx (.own x)) x (.ins C dx [])) (fun v H2 => v = .non ∧ Q (.ref x) H2) E := by
  have s1 : Same H (upd (upd H dx (.own x)) x (.ins C dx [])) := fun a u q => by
    have h1 : a ≠ dx := fun z => by rw [z, ndx] at q; cases q
    have h2 : a ≠ x := fun z => by rw [z, nx] at q; cases q
    rw [upd_ne h2, upd_ne h1]
    exact q
  have le := le_addO (n := st.next + 1) I s1 nx (Nat.lt_succ_self _)
  have I1 := I.addO (c := .ins C [] []) s1 nx rfl ⟨dx, [], upd_same, rfl, .nil⟩
  have new : (W.addO (st.next + 1) x).h (st.next + 1) = some x := if_pos rfl
  have nN : ¬ W.N x := fun z => I.there x z nx
  unfold mkF at e
  cases hF : F (.hnd (st.next + 1) :: ds) { st with own := (st.next + 1, .ins C [] []) :: st.own, next := st.next + 1 } with
  | none => rw [hF] at e; cases e
  | some p =>
    obtain ⟨ro, st'⟩ := p
    rw [hF] at e
    refine ⟨W.addO (st.next + 1) x, .hnd (st.next + 1) :: ds, _, ro, st', .cons (.hnd _ new) (rs.to le), I1, hF, ?_⟩
    cases ro with
    | error z =>
      simp only at e
      cases e
      exact fun W' dx' H' le' i' ex => w W' dx' H' (le.trans le') i' ex
    | ok d =>
      cases d with
      | non =>
        simp only at e
        split at e
        · rename_i C' ns es hl
          split at e
          · rename_i hc
            cases e
            subst hc
            intro W' H' le' i' v rv
            cases rv
            refine ⟨rfl, ?_⟩
            have hx := le'.hh _ _ new
            obtain ⟨n0, p, h1, h2, dx', fs, h3, h4, h5⟩ := i'.own _ _ (look_mem hl)
            rw [hx] at h1
            cases h1
            exact w (W'.delO x) H' ((le.trans le').delO nN) (i'.delO hx n0) _ (.obj (fun z => z.2 rfl) h3 h4 (h5.tow lw_delO))
          · cases e
        · cases e
      | _ => simp only at e; cases e
end
section
variable {X : Cx} {E : XK} {k : Nat} {f C : Addr} {fd : FuncData} {ps ks : List Str} {is : List Nat} {F : FDen} {x : Str} {p pos : Pos} {a : Expr} {es : List Expr} {kws : List Keyword} {tr tk : ADen} {ds : List Value} {dvs : List V} {dd : List D}
/-- C(e, ..) with the defaults dd behind -/
theorem de_make (M : Mk X.K C f) (G : FnOk X.prog X.w X.K X.mg X.base (L2.CX X.prog X.w) k f fd ps (spF X.K F)) (hr : Room (k + 1) X.A) (hm : X.mg x = some (.ref C)) (hb : Binds X.K fd ps ds) (hd : Vals dvs ds) (rd : ∀ W H, Rps X.K W H dvs dd) (hx : Passes (L2.CX X.prog X.w) X E)
    (ha : PA X (a :: es) (tAD X.K E tr)) (hg : Gl X x := by rfl) (hdb : (x == ("__debug__" : Str)) = false := by decide) (he : starEach (a :: es) X.env = (false, eval a X.env) :: starEach es X.env := by rfl) (hpl : (backTo pos (starEach es X.env)).any (·.1) = false := by rfl) :
    PE X (.Call (.Name x p) (a :: es) [] pos) (tD X.K E (callP (fun as st => mkF C F (as ++ dd) st) tr)) := by
  refine imE (pe_make M G hr hg hm hb hd hx ha hdb he hpl) fun σ H Q h => ?_
  obtain ⟨W, st0, h⟩ := h
  refine ⟨W, st0, (h.seq (k := fun as _ st => mkF C F (as ++ dd) st)).mono fun ds st1 W1 H1 e1 i1 q vs rs => ?_⟩
  obtain ⟨Δ, r, st', L, I, e, w⟩ := q.2
  exact fun x dx nx ndx ne => mk_core (rs.append (rd _ H1)) I e w nx ndx ne
/-- C(e, .., k = v, ..): the keywords' values behind the others, by the places is -/
def mkkF (C : Addr) (n m : Nat) (is : List Nat) (F : FDen) (ds es : List D) : Sta → Mo D := fun st => if ds.length = n ∧ es.length = m then mkF C F (ds ++ pick is es) st else none
def makeKP (C : Addr) (n m : Nat) (is : List Nat) (F : FDen) (tr tk : ADen) : EDen := fun Δ st => bd (tr Δ st) fun ds st1 => bd (tk Δ st1) fun es st2 => mkkF C n m is F ds es st2
theorem de_makeK {n : Nat} (M : Mk X.K C f) (G : FnOk X.prog X.w X.K X.mg X.base (L2.CX X.prog X.w) k f fd ps (spF X.K F)) (hr : Room (k + 1) X.A) (hm : X.mg x = some (.ref C)) (hb : KBn X.K fd ps (n + 1) ks (fun us ws => us ++ pick is ws) (fun us zs => us ++ pick is zs)) (hx : Passes (L2.CX X.prog X.w) X E)
    (ha : PA X (a :: es) (tAD X.K E tr)) (hkw : PK X kws (tAD X.K E tk)) (hg : Gl X x := by rfl) (hall : (backToKw pos (keywordEach kws X.env)).all (·.1.isSome) = true := by rfl) (hks : (backToKw pos (keywordEach kws X.env)).filterMap (·.1) = ks := by rfl)
    (hdb : (x == ("__debug__" : Str)) = false := by decide) (he : starEach (a :: es) X.env = (false, eval a X.env) :: starEach es X.env := by rfl)
    (hpl : ((backTo pos (starEach (a :: es) X.env)).any (·.1) || (backToKw pos (keywordEach kws X.env)).any (·.1.isNone)) = false := by rfl) :
    PE X (.Call (.Name x p) (a :: es) kws pos) (tD X.K E (makeKP C n ks.length is F tr tk)) := by
  refine imE (pe_makeN M G hr hg hm hb hx ha hkw hall hks hdb he hpl) fun σ H Q h => ?_
  obtain ⟨W, st0, h⟩ := h
  refine ⟨W, st0, h.seq.mono fun ds st1 W1 H1 e1 i1 q vs rs => ?_⟩
  refine ⟨W1, st1, q.2.seq.mono fun es st2 W2 H2 e2 i2 q2 zs rz => ?_⟩
  obtain ⟨Δ, r, st', L, I, e, w⟩ := q2.2
  replace e : mkkF C n ks.length is F ds es st2 = some (r, st') := e
  unfold mkkF at e
  split at e
  · rename_i hl
    refine ⟨by rw [rs.length]; exact hl.1, by rw [rz.length]; exact hl.2, fun x dx nx ndx ne => ?_⟩
    exact mk_core ((rs.to e2).append (pick_rps rz is)) I e w nx ndx ne
  · cases e
/-- how a method with keyword-only parameters behind the others binds -/
theorem vals_app {us : List V} {vs : List Value} {zs : List V} {ws : List Value} (h : Vals us vs) (g : Vals zs ws) : Vals (us ++ pick is zs) (vs ++ pick is ws) := h.append (pick_vals g is)
end
/-! ### methods and properties -/
def methP (C : Addr) (m : Str) (F : FDen) (te : EDen) (tr : ADen) : EDen := fun Δ st => bd (te Δ st) fun d st1 => match insOf st1 C d with
  | some (ns, _) => if m ∈ ns then none else bd (tr Δ st1) fun ds st2 => F (d :: ds) st2
  | none => none
def propP (C : Addr) (F : FDen) (te : EDen) : EDen := fun Δ st => bd (te Δ st) fun d st1 => match insOf st1 C d with
  | some _ => (match F [d] st1 with | some (.ok r, st2) => some (.ok r, st2) | _ => none)
  | none => none
section
variable {X : Cx} {E : XK} {k : Nat} {f C g q : Addr} {fd : FuncData} {ps ks : List Str} {F : FDen} {m x : Str} {p pos apos : Pos} {a o : Expr} {es : List Expr} {te : EDen} {tr : ADen} {pl : Sem Bool} {ds : List Value} {dvs : List V} {dd : List D}
theorem de_meth (c : Cls X.K C) (hm : Meth X.K C m f) (G : FnOk X.prog X.w X.K X.mg X.base (L2.CX X.prog X.w) k f fd ps (spF X.K F)) (hr : Room k X.A) (hb : Binds X.K fd ps ds) (hd : Vals dvs ds) (rd : ∀ W H, Rps X.K W H dvs dd) (hx : Passes (L2.CX X.prog X.w) X E)
    (he : PE X o (tD X.K E te)) (ha : PA X (a :: es) (tAD X.K E tr)) (hst : starEach (a :: es) X.env = (false, eval a X.env) :: starEach es X.env := by rfl) (hpl : (backTo pos (starEach es X.env)).any (·.1) = false := by rfl)
    (ht : eval (.Call (.Attribute o m apos) (a :: es) [] pos) X.env = (do
      let ov ← eval o X.env
      standAt apos.atName
      let (f, first) ← holding [ov] (getMethod ov m pl)
      callWith pos f first (backTo pos (starEach (a :: es) X.env)) (backToKw pos (keywordEach [] X.env))) := by rfl) :
    PE X (.Call (.Attribute o m apos) (a :: es) [] pos) (tD X.K E (methP C m (fun as st => F (as ++ dd) st) te tr)) := by
  refine imE (pe_meth he c hm G hr hb hd hx ha hst hpl ht) fun σ H Q h => ?_
  obtain ⟨W, st0, h⟩ := h
  refine ⟨W, st0, h.seq.mono fun d st1 W1 H1 e1 i1 q v rv => ?_⟩
  obtain ⟨Δ0, r0, s0, L0, I0, eq, w0⟩ := q.2
  simp only at eq
  split at eq
  · rename_i ns ds hi
    split at eq
    · cases eq
    · rename_i hn
      obtain ⟨a, dx, fs, rfl, h1, h2, h3⟩ := ins_of I0 rv hi
      refine ⟨a, dx, fs, rfl, h1, lk_none h2 hn, ?_⟩
      have h4 : tGw X.K W1 st1 E (fun Δ st => bd (tr Δ st) fun ds st2 => F (d :: ds ++ dd) st2) σ H1 (fun r _ W' H' => ∀ v, Rp X.K W' H' v r → Q v H') := ⟨Δ0, r0, s0, L0, I0, eq, w0⟩
      refine ⟨W1, st1, (h4.seq (k := fun ds _ st2 => F (d :: ds ++ dd) st2)).mono fun ds st2 W2 H2 e2 i2 q2 vs rs => ?_⟩
      obtain ⟨Δ, r, st', L, I, e, w⟩ := q2.2
      exact ⟨W2, d :: ds ++ dd, st2, r, st', .cons (rv.to e2) (rs.append (rd _ H2)), I, e, w⟩
  · cases eq
theorem de_meth0 (c : Cls X.K C) (hm : Meth X.K C m f) (G : FnOk X.prog X.w X.K X.mg X.base (L2.CX X.prog X.w) k f fd ps (spF X.K F)) (hr : Room k X.A) (hb : Binds X.K fd ps []) (hx : Passes (L2.CX X.prog X.w) X E)
    (he : PE X o (tD X.K E te))
    (ht : eval (.Call (.Attribute o m apos) [] [] pos) X.env = (do
      let ov ← eval o X.env
      standAt apos.atName
      let (f, first) ← holding [ov] (getMethod ov m pl)
      callWith pos f first (backTo pos (starEach [] X.env)) (backToKw pos (keywordEach [] X.env))) := by rfl) :
    PE X (.Call (.Attribute o m apos) [] [] pos) (tD X.K E (methP C m F te nilP)) := by
  refine imE (pe_meth0 he c hm G hr hb .nil hx ht) fun σ H Q h => ?_
  obtain ⟨W, st0, h⟩ := h
  refine ⟨W, st0, h.seq.mono fun d st1 W1 H1 e1 i1 q v rv => ?_⟩
  obtain ⟨Δ0, r0, s0, L0, I0, eq, w0⟩ := q.2
  simp only at eq
  split at eq
  · rename_i ns ds hi
    split at eq
    · cases eq
    · rename_i hn
      obtain ⟨a, dx, fs, rfl, h1, h2, h3⟩ := ins_of I0 rv hi
      refine ⟨a, dx, fs, rfl, h1, lk_none h2 hn, W1, [d], st1, r0, s0, .cons rv .nil, I0, eq, w0⟩
  · cases eq
theorem de_prop (c : Cls X.K C) (hp : PropOf X.K C m q g) (G : FnOk X.prog X.w X.K X.mg X.base (L2.CX X.prog X.w) k g fd ps (spF X.K F)) (hr : Room (k + 1) X.A) (hb : Binds X.K fd ps [])
    (he : PE X o (tD X.K E te)) (hab : attributeBase o m X.env (eval o X.env) = eval o X.env := by rfl) : PE X (.Attribute o m pos) (tD X.K E (propP C F te)) := by
  have never : Passes (L2.CX X.prog X.w) X.nox (fun _ _ _ => False) := fun _ _ _ _ _ _ _ h => by
    obtain ⟨_, _, _, _, _, _, _, _, _, _, _, _, z⟩ := h
    exact z.elim
  refine imE (pe_prop he c hp G hr hb .nil never hab) fun σ H Q h => ?_
  obtain ⟨W, st0, h⟩ := h
  refine ⟨W, st0, h.seq.mono fun d st1 W1 H1 e1 i1 q v rv => ?_⟩
  obtain ⟨Δ0, r0, s0, L0, I0, eq, w0⟩ := q.2
  simp only at eq
  split at eq
  · rename_i p hi
    obtain ⟨ns, ds⟩ := p
    obtain ⟨a, dx, fs, rfl, h1, h2, h3⟩ := ins_of I0 rv hi
    split at eq
    · rename_i r st2 hF
      cases eq
      exact ⟨a, dx, fs, rfl, h1, W1, [d], st1, _, _, .cons rv .nil, I0, hF, w0⟩
    · cases eq
  · cases eq
end
end Dn

set_option Elab.async false
set_option linter.all false
set_option maxRecDepth 100000
set_option maxHeartbeats 4000000
namespace Dn
open PySem PySem.Spec PyProof.Rows L2
/-! ### what a def made for itself is plain data once it is handed out -/
def frz (st0 : Sta) : Except Exc D × Sta → Mo D
  | (.ok (.hnd n), st') => if st0.next < n then (match st'.look n with
    | some (.ins C ns ds) => some (.ok (.obj C ns ds), st'.drop n)
    | some (.lst ds) => some (.ok (.lst ds), st'.drop n)
    | none => none) else some (.ok (.hnd n), st')
  | p => some p
def fzF (F : FDen) : FDen := fun ds st => (F ds st).bind (frz st)
theorem spF_fz {K : PySem.W.Frag} {F : FDen} {vs : List V} {H : Hp} {Q : VK} {E : XK} (h : spF K (fzF F) vs H Q E) : spF K F vs H Q E := by
  obtain ⟨W, ds, st, r, st', rs, I, e, w⟩ := h
  unfold fzF at e
  cases hF : F ds st with
  | none => rw [hF] at e; cases e
  | some p =>
    obtain ⟨r1, st1⟩ := p
    rw [hF] at e
    simp only [Option.bind] at e
    refine ⟨W, ds, st, r1, st1, rs, I, hF, ?_⟩
    unfold frz at e
    split at e
    · rename_i n st2 ep
      cases ep
      split at e
      · rename_i hn
        intro W' H' le i v rv
        cases rv with
        | @hnd x n hx =>
          have nW : W.h n ≠ some x := fun z => by have := I.bd n x z; omega
          have nx : H x = none := (le.newH n x hx).resolve_left nW
          have nN : ¬ W.N x := fun z => I.there x z nx
          have n0 : n ≠ 0 := by omega
          split at e
          · rename_i C ns es hl
            cases e
            obtain ⟨_, p, h1, h2, dx, fs, h3, h4, h5⟩ := i.own _ _ (look_mem hl)
            rw [hx] at h1
            cases h1
            exact w (W'.delO x) H' (le.delO nN) (i.delO hx n0) _ (.obj (fun z => z.2 rfl) h3 h4 (h5.tow lw_delO))
          · rename_i es hl
            cases e
            obtain ⟨_, p, h1, h2, us, h3, h5⟩ := i.own _ _ (look_mem hl)
            rw [hx] at h1
            cases h1
            exact w (W'.delO x) H' (le.delO nN) (i.delO hx n0) _ (.lst (fun z => z.2 rfl) h3 (h5.tow lw_delO))
          · cases e
      · cases e
        exact w
    · cases e
      exact w
theorem fn_fz {P : Program} {w : World} {K : PySem.W.Frag} {mg : Str → Option Value} {base : Heap} {CX : CXT} {k : Nat} {f : Addr} {fd : FuncData} {ps : List Str} {F : FDen} (G : FnOk P w K mg base CX k f fd ps (spF K F)) : FnOk P w K mg base CX k f fd ps (spF K (fzF F)) :=
  G.imp fun _ _ _ _ h => spF_fz h
/-! ### lists of one's own, that grow -/
def newP (tr : ADen) : EDen := fun Δ st => bd (tr Δ st) fun ds st1 => if ds.length ≤ big then some (.ok (.hnd (st1.next + 1)), { st1 with own := (st1.next + 1, .lst ds) :: st1.own, next := st1.next + 1 }) else none
def appP (to te : EDen) : EDen := fun Δ st => bd (to Δ st) fun o st1 => match o with
  | .hnd n => match st1.look n with
    | some (.lst _) => bd (te Δ st1) fun d st2 => (match st2.look n with
      | some (.lst ds) => if ds.length < big then some (.ok .non, st2.put n (.lst (ds ++ [d]))) else none
      | _ => none)
    | _ => none
  | _ => none
section
variable {X : Cx} {E : XK} {o a : Expr} {es : List Expr} {tr : ADen} {to te : EDen} {pos apos cpos : Pos}
theorem de_newl (h : PA X es (tAD X.K E tr)) : PE X (.List es pos) (tD X.K E (newP tr)) := by
  refine imE (pe_lst h) fun σ H Q h => ?_
  obtain ⟨W, st0, h⟩ := h
  refine ⟨W, st0, h.seq.mono fun ds st1 W1 H1 e1 i1 q vs rs => ?_⟩
  obtain ⟨Δ, r, st', L, I, e, k⟩ := q.2
  simp only at e
  split at e
  · rename_i hl
    cases e
    refine ⟨by rw [rs.length]; exact Nat.le_trans hl (by decide), fun p np => ?_⟩
    have s1 : Same H1 (upd H1 p (.lst vs)) := same_new np
    have le := le_addO (n := st1.next + 1) I s1 np (Nat.lt_succ_self _)
    exact k _ _ le (I.addO (c := .lst ds) s1 np rfl ⟨vs, upd_same, rs.to le⟩) _ (.hnd _ (if_pos rfl))
  · cases e
theorem de_app (ho : PE X o (tD X.K E to)) (ha : PE X a (tD X.K E te)) (hbase : attributeBase o "append" X.env (eval o X.env) = eval o X.env := by rfl)
    (hfew : ((backTo cpos (starEach [a] X.env)).all (fun x => !x.1) && (backToKw cpos (keywordEach [] X.env)).all (fun x => x.1.isSome) && decide ([a].length + ([] : List Keyword).length + (if ([] : List Keyword).isEmpty then 0 else 1) < 30)) = true := by rfl)
    (hline : (apos.endLine == cpos.line) = true := by rfl) (hs : starEach [a] X.env = (false, eval a X.env) :: starEach [] X.env := by rfl) (hplain : (backTo cpos (starEach [] X.env)).any (·.1) = false := by rfl) :
    PE X (.Call (.Attribute o "append" apos) [a] [] cpos) (tD X.K E (appP to te)) := by
  refine imE (pe_bm PySem.F.plainAttrs_list PySem.F.slot_list_append PySem.F.type_list_append mt_append ho (pa_cons ha pa_nil hs) hbase hfew hline hs hplain) fun σ H Q h => ?_
  obtain ⟨W, st0, h⟩ := h
  refine ⟨W, st0, h.seq.mono fun x st1 W1 H1 e1 i1 q v rv => ?_⟩
  obtain ⟨Δ0, r0, s0, L0, I0, eq, w0⟩ := q.2
  simp only at eq
  split at eq
  · rename_i n
    split at eq
    · rename_i ds0 hl0
      obtain ⟨n0, p, h1, h2, us, h3, h4⟩ := I0.own _ _ (look_mem hl0)
      cases rv with
      | hnd n hh =>
        rw [h1] at hh
        cases hh
        refine ⟨.inl ⟨rfl, us, .inl (.inl h3)⟩, ?_⟩
        have h5 : tGw X.K W1 st1 E (fun Δ st => bd (te Δ st) fun d st2 => (match st2.look n with
          | some (.lst ds) => if ds.length < big then some (.ok .non, st2.put n (.lst (ds ++ [d]))) else none
          | _ => none)) σ H1 (fun r _ W' H' => ∀ v, Rp X.K W' H' v r → Q v H') := ⟨Δ0, r0, s0, L0, I0, eq, w0⟩
        refine ⟨W1, st1, h5.seq.mono fun d st2 W2 H2 e2 i2 q2 u ru => ?_⟩
        obtain ⟨Δ, r, st', L, I, e, k⟩ := q2.2
        simp only at e
        split at e
        · rename_i ds hl
          split at e
          · rename_i few
            cases e
            have hm := look_mem hl
            obtain ⟨_, p', g1, g2, us2, g3, g4⟩ := I.own _ _ hm
            have hp := e2.hh _ _ h1
            rw [hp] at g1
            cases g1
            refine ⟨p, us2, u, rfl, rfl, g3, by rw [g4.length]; exact Nat.lt_of_lt_of_le few (by decide), ?_⟩
            have le := le_updM (H := H2) (o := .lst (us2 ++ [u])) g2
            exact k W2 _ le (I.ownUpd hm hp g2 ⟨us2 ++ [u], upd_same, (g4.append (.cons ru .nil)).to le⟩) _ .non
          · cases e
        · cases e
    · cases eq
  · cases eq
end
/-! ### ~o of an own object -/
def unP (C : Addr) (F : FDen) (te : EDen) : EDen := fun Δ st => bd (te Δ st) fun d st1 => match insOf st1 C d with
  | some _ => F [d] st1
  | none => none
/-- the class has its own def of a dunder name -/
structure Dun (K : PySem.W.Frag) (C : Addr) (m : Str) (f : Addr) : Prop where
  at_ : PySem.W.findIn K (.ref C) m = some (some (.ref f))
  fn : PySem.W.isFn K (.ref f) = true
section
variable {X : Cx} {E : XK} {k : Nat} {f C : Addr} {fd : FuncData} {ps : List Str} {F : FDen} {o : Expr} {te : EDen} {pos : Pos}
theorem un_own {sp : Sp} {CX : CXT} (dn : Dun X.K C "__invert__" f) (G : FnOk X.prog X.w X.K X.mg X.base CX k f fd ps sp) (hr : Room k X.A) (hb : Binds X.K fd ps []) (hx : Passes CX X E) :
    UnR X (unaryOp .Invert) (fun x H Q => ∃ a dx fs, x = .ref a ∧ H a = some (.ins C dx fs) ∧ sp [.ref a] H Q E) := by
  intro pins s σ H x v Q I rx h
  obtain ⟨a, dx, fs, rfl, ea, q⟩ := h
  obtain rfl : v = Value.ref a := rx
  obtain ⟨mA, O, _, _, _, _⟩ := ins_get I.hok ea
  obtain ⟨od, J, _⟩ := O.look
  have run := run_fn (us := [.ref a]) (vs := [.ref a]) G hr hb .nil hx I (.cons rfl .nil) q
  unfold unaryOp
  exact wpAny_holding (wpAny_bind (PySem.W.special_fn I.kIn J dn.at_ (beq_iff_eq.mp dn.fn) (wpAny_mono run (fun _ _ z => wpAny_pure z) fun _ _ z => z)))
theorem de_inv (dn : Dun X.K C "__invert__" f) (G : FnOk X.prog X.w X.K X.mg X.base (L2.CX X.prog X.w) k f fd ps (spF X.K F)) (hr : Room k X.A) (hb : Binds X.K fd ps []) (hx : Passes (L2.CX X.prog X.w) X E) (he : PE X o (tD X.K E te)) : PE X (.UnaryOp .Invert o pos) (tD X.K E (unP C F te)) := by
  refine imE (pe_un (un_own dn G hr hb hx) he) fun σ H Q h => ?_
  obtain ⟨W, st0, h⟩ := h
  refine ⟨W, st0, h.seq.mono fun d st1 W1 H1 e1 i1 q v rv => ?_⟩
  obtain ⟨Δ0, r0, s0, L0, I0, eq, w0⟩ := q.2
  simp only at eq
  split at eq
  · rename_i p hi
    obtain ⟨ns, ds⟩ := p
    obtain ⟨a, dx, fs, rfl, h1, h2, h3⟩ := ins_of I0 rv hi
    exact ⟨a, dx, fs, rfl, h1, W1, [d], st1, _, _, .cons rv .nil, I0, eq, w0⟩
  · cases eq
end
end Dn

set_option Elab.async false
set_option linter.all false
set_option maxRecDepth 100000
set_option maxHeartbeats 4000000
namespace Dn
open PySem PySem.Spec PyProof.Rows L2
/-! ### lists read, whether plain data or one's own -/
def lstOf (st : Sta) : D → Option (List D)
  | .lst ds => some ds
  | .hnd n => match st.look n with
    | some (.lst ds) => some ds
    | _ => none
  | _ => none
theorem lst_of {K : PySem.W.Frag} {W : Wd} {H : Hp} {st : Sta} {v : V} {d : D} {ds : List D} (I : Holds K W H st) (r : Rp K W H v d) (h : lstOf st d = some ds) : ∃ a xs, v = .ref a ∧ H a = some (.lst xs) ∧ Rps K W H xs ds := by
  unfold lstOf at h
  split at h
  · cases h
    cases r with
    | lst n s q => exact ⟨_, _, rfl, s, q⟩
  · split at h
    · cases h
      rename_i n ds' hl
      obtain ⟨_, p, h1, h2, us, h3, h4⟩ := I.own _ _ (look_mem hl)
      cases r with
      | hnd n e =>
        rw [h1] at e
        cases e
        exact ⟨_, us, rfl, h3, h4⟩
    · cases h
  · cases h
def catP (ta tb : EDen) : EDen := fun Δ st => bd (ta Δ st) fun x st1 => bd (tb Δ st1) fun y st2 => match lstOf st2 x, lstOf st2 y with
  | some xs, some ys => if xs.length + ys.length ≤ big then some (.ok (.lst (xs ++ ys)), st2) else none
  | _, _ => none
def lenLP (ta : EDen) : EDen := fun Δ st => bd (ta Δ st) fun x st1 => (lstOf st1 x).map fun xs => (.ok (.int xs.length), st1)
def inDeep (x y : D) : Option D := match y with
  | .lst ds => (shP x).bind fun p => (toPys ds).bind fun q => if SeqAt.shaped (.list q) = true then some (.bl (q.any fun z => PyData.eqv z p)) else none
  | _ => none
section
variable {X : Cx} {E : XK} {a b : Expr} {ta tb : EDen} {pos p : Pos}
theorem de_cat (ha : PE X a (tD X.K E ta)) (hb : PE X b (tD X.K E tb)) : PE X (.BinOp a .Add b pos) (tD X.K E (catP ta tb)) := by
  refine imE (pe_op op_cat ha hb) fun σ H Q h => ?_
  obtain ⟨W, st0, h⟩ := h
  refine ⟨W, st0, h.seq.mono fun x st1 W1 H1 e1 i1 q v rv => ⟨W1, st1, q.2.seq.mono fun y st2 W2 H2 e2 i2 q2 u ru => ?_⟩⟩
  obtain ⟨Δ, r, st', L, I, e, k⟩ := q2.2
  simp only at e
  split at e
  · rename_i xs ys hx hy
    split at e
    · rename_i hz
      cases e
      obtain ⟨a1, us, rfl, h1, r1⟩ := lst_of I (rv.to e2) hx
      obtain ⟨a2, vs, rfl, h2, r2⟩ := lst_of I ru hy
      exact ⟨a1, a2, us, vs, rfl, rfl, h1, h2, by rw [r1.length, r2.length]; exact big_line hz, fun p np => k W2 _ (Le.of (same_new np)) (I.same (same_new np)) _ (rp_lst I np (r1.append r2))⟩
    · cases e
  · cases e
theorem de_lenL (hm : X.mg "len" = none) (ha : PE X a (tD X.K E ta)) (hg : Gl X "len" := by rfl) (he : starEach (a :: []) X.env = (false, eval a X.env) :: starEach [] X.env := by rfl) (hpl : (backTo pos (starEach [] X.env)).any (·.1) = false := by rfl) :
    PE X (.Call (.Name "len" p) [a] [] pos) (tD X.K E (lenLP ta)) := by
  refine imE (pe_callB call_len_seq hg hm PySem.boot_len (pa_cons ha pa_nil he) (by decide) (by decide) he hpl) fun σ H Q h => ?_
  obtain ⟨W, st0, h⟩ := h
  refine ⟨W, st0, h.seq.mono fun x st1 W1 H1 e1 i1 q v rv => ?_⟩
  obtain ⟨Δ, r, st', L, I, e, k⟩ := q.2
  simp only at e
  cases hx : lstOf st1 x with
  | none => rw [hx] at e; cases e
  | some xs =>
    rw [hx] at e
    cases e
    obtain ⟨a1, us, rfl, h1, r1⟩ := lst_of I rv hx
    exact ⟨a1, us, rfl, .inl (sq_l h1), by rw [r1.length]; exact k W1 H1 (Le.refl _ _) I _ (.int _)⟩
theorem or_inDeep (hu : X.A.units + 65 < cLine) : OpR X (compareOp .In) (rBinD X.K inDeep) := by
  intro pins s σ H x y v u Q I rx ry q
  obtain ⟨W, st, d1, d2, d, r1, r2, iv, hf, k⟩ := q
  unfold inDeep at hf
  split at hf
  · rename_i ds
    cases e1 : shP d1 with
    | none => rw [e1] at hf; cases hf
    | some p =>
      rw [e1] at hf
      cases e2 : toPys ds with
      | none => rw [e2] at hf; cases hf
      | some q =>
        rw [e2] at hf
        simp only [Option.bind] at hf
        split at hf
        · rename_i hs
          cases hf
          have g1 := shP_of e1
          have g2 : toPy (.lst ds) = some (.list q) := by unfold toPy; rw [e2] <;> rfl
          exact op_inD hu pins s σ H _ _ v u Q I rx ry ⟨p, q, r1.dp _ _ _ g1.1, r2.dp _ _ _ g2, g1.2, hs, k _ _ (Same.refl _) (.bl _)⟩
        · cases hf
  · cases hf
end
end Dn

set_option Elab.async false
set_option linter.all false
set_option maxRecDepth 100000
set_option maxHeartbeats 4000000
namespace Dn
open PySem PySem.Spec PyProof.Rows L2
/-! ### bit_length, the first place in a tuple of texts, enumerate -/
def bitsP (te : EDen) : EDen := fun Δ st => bd (te Δ st) fun d st1 => (intOf d).map fun i => (.ok (.int (Builtin.Int.intBits i : Nat)), st1)
def enuF : List D → Option (List D)
  | [.lst ds] => some (ds.zipIdx.map fun p => .tup [.int (p.2 : Nat), p.1])
  | _ => none
def enuP (tr : ADen) : IDen := fun Δ st => bd (tr Δ st) fun ds st1 => (enuF ds).map fun r => (.ok r, st1)
section
variable {X : Cx} {E : XK} {o a : Expr} {te ta : EDen} {pos apos cpos p tpos : Pos} {kk : Nat}
theorem de_bits (ho : PE X o (tD X.K E te)) (hbase : attributeBase o "bit_length" X.env (eval o X.env) = eval o X.env := by rfl) (hline : (apos.endLine == pos.line) = true := by rfl) : PE X (.Call (.Attribute o "bit_length" apos) [] [] pos) (tD X.K E (bitsP te)) := by
  refine imE (pe_bits ho hbase hline) fun σ H Q h => ?_
  obtain ⟨W, st, h⟩ := h
  refine ⟨W, st, h.seq.mono fun d st1 W1 H1 e1 i1 q v rv => ?_⟩
  obtain ⟨Δ, r, st', L, I, e, k⟩ := q.2
  cases rv <;> simp only [intOf] at e <;> cases e
  exact ⟨_, rfl, k W1 H1 (Le.refl _ _) I _ (.int _)⟩
theorem zipIdx_get {ds : List D} {i : Nat} {d : D} (h : (ds.zipIdx.map fun p => D.tup [.int (p.2 : Nat), p.1])[i]? = some d) : ∃ x, ds[i]? = some x ∧ d = .tup [.int (i : Nat), x] := by
  rw [List.getElem?_map, List.getElem?_zipIdx] at h
  cases q : ds[i]? with
  | none => rw [q] at h; cases h
  | some x =>
    rw [q] at h
    simp only [Option.map] at h
    cases h
    exact ⟨x, rfl, by rw [Nat.zero_add]⟩
theorem di_enum {elts : List Expr} {tr : ADen} (hm : X.mg "enumerate" = none) (ha : PA X [a] (tAD X.K E tr)) (hg : Gl X "enumerate" := by rfl) (hs : starEach [a] X.env = [(false, eval a X.env)] := by rfl) :
    PI X (.Tuple elts kk tpos) (.Call (.Name "enumerate" p) [a] [] pos) (tI X.K E (enuP tr)) := by
  refine ⟨fun pins s σ H R I h => (pi_enum hg hm ha hs).run pins s σ H R I ?_⟩
  obtain ⟨W, st, h⟩ := h
  refine ⟨W, st, h.seq.mono fun ds st1 W1 H1 e1 i1 q vs rs => ?_⟩
  obtain ⟨Δ, r, L, iv, e, k⟩ := q.2.val (m := fun _ => enuF ds)
  unfold enuF at e
  split at e
  · rename_i xs
    cases e
    obtain ⟨v, rfl, rv⟩ := rps1 rs
    cases rv with
    | @lst c vx _ n1 s1 q1 =>
      refine ⟨c, vx, rfl, sq_l s1, k W1 H1 (Le.refl _ _) iv _ ⟨fun H => SqL X.K H c vx, YPair (fun i => some (.int (i : Nat))) (fun i => vx[i]?), ?_, fun W2 H e2 => sq_l (e2.ext _ _ n1 s1), fun i W2 H st2 x H' d e2 i2 hd y => ?_⟩⟩
      · have l : (xs.zipIdx.map fun p => D.tup [.int (p.2 : Nat), p.1]).length = vx.length := by rw [List.length_map, List.length_zipIdx, q1.length]
        rw [l]
        exact walk_enum
      · obtain ⟨T, x1, x2, rfl, nT, rfl, f1, f2⟩ := y
        obtain ⟨d2, g2, rfl⟩ := zipIdx_get hd
        obtain ⟨w2, m2, r2⟩ := q1.get g2
        rw [show vx[i]? = some x2 from f2] at m2
        cases m2
        cases (show some (V.int (i : Nat)) = some x1 from f1)
        exact ⟨same_new nT, rp_tup i2 nT (.cons (.int _) (.cons (r2.tow e2) .nil))⟩
  · cases e
end
end Dn

set_option Elab.async false
set_option linter.all false
set_option maxRecDepth 100000
set_option maxHeartbeats 4000000
namespace Dn
open PySem PySem.Spec PyProof.Rows L2
/-! ### tuples whose object is known: tuple(a list), t.index(text) -/
def thawD : D → D
  | .ftp ds => .tup ds
  | d => d
def thP (te : EDen) : EDen := fun Δ st => bd (te Δ st) fun d st1 => some (.ok (thawD d), st1)
theorem rp_thaw {K : PySem.W.Frag} {W : Wd} {H : Hp} {v : V} {d : D} (r : Rp K W H v d) : Rp K W H v (thawD d) := by
  cases d <;> first | exact r | skip
  cases r with
  | ftp n s hd q => exact .tup (.inl ⟨n, .inr ⟨_, s⟩⟩) q
def ftupF : List D → Option D
  | [.lst ds] => some (.ftp ds)
  | _ => none
def placeF (d : D) (ds : List D) : Option D := match d with
  | .str z => (strsD ds).bind fun ss => if z ∈ ss then some (.int (ss.idxOf z : Nat)) else none
  | _ => none
def placeP (te ta : EDen) : EDen := fun Δ st => bd (te Δ st) fun x st1 => match x with
  | .ftp ds => bd (ta Δ st1) fun d st2 => (placeF d ds).map fun r => (.ok r, st2)
  | _ => none
abbrev tA1 (K : PySem.W.Frag) (E : XK) (τ : EDen) : TE := tD K E τ
section
variable {X : Cx} {E : XK} {o a : Expr} {te ta : EDen} {pos apos cpos : Pos}
theorem de_thaw (he : PE X o (tD X.K E te)) : PE X o (tD X.K E (thP te)) := by
  refine imE he fun σ H Q h => ?_
  obtain ⟨W, st, h⟩ := h
  refine ⟨W, st, h.seq.mono fun d st1 W1 H1 e1 i1 q v rv => ?_⟩
  exact q.2.ret (fun _ => rfl) v (rp_thaw rv)
theorem cr_ftup : CallR X (.type "tuple") (rCD X.K ftupF) := by
  intro pins s σ H xs us Q I r h
  obtain ⟨W, st, ds, d, rs, iv, hf, k⟩ := h
  unfold ftupF at hf
  split at hf
  · rename_i es
    cases hf
    obtain ⟨v, rfl, rv⟩ := rps1 rs
    cases rv with
    | @lst p ys _ n1 s1 q1 =>
      obtain ⟨u, rfl, rx⟩ := vals1 r
      cases rx
      obtain ⟨its, r', pl, hz⟩ := I.list (sq_l s1 : SqL X.K H p ys)
      have hlen := r'.length
      refine call_tuple_list pl.isList (fun h' kp => ?_) (by simp only [List.size_toArray] <;> omega)
      have I1 : Inv X pins σ H { s with heap := h' } := I.kept (t' := s.toks) kp
      have np : H h'.objs.size = none := I1.hok.fresh (Nat.le_refl _)
      have I2 : Inv X pins σ (upd H h'.objs.size (.frz { cls := .type "tuple", data := .seq its.toArray } (.tup ys))) { s with heap := h'.push { cls := .type "tuple", data := .seq its.toArray } } :=
        I1.laid (t' := s.toks) (fun b o e => Heap.get?_push_of_some _ e) (Nat.le_refl _) (show ObjOk X.prog X.w _ _ _ (.frz _ (.tup ys)) from ⟨Heap.get?_push_size _ rfl, hz, its, r', IsTup.new _ _⟩)
      exact ⟨.ref h'.objs.size, _, I2, rfl, k _ _ (same_new np) (.ftp (not_n iv np) upd_same rfl (q1.to (Le.of (same_new np))))⟩
  · cases hf
theorem de_place (ho : PE X o (tD X.K E te)) (ha : PE X a (tD X.K E ta)) (hbase : attributeBase o "index" X.env (eval o X.env) = eval o X.env := by rfl)
    (hfew : ((backTo cpos (starEach [a] X.env)).all (fun x => !x.1) && (backToKw cpos (keywordEach [] X.env)).all (fun x => x.1.isSome) && decide ([a].length + ([] : List Keyword).length + (if ([] : List Keyword).isEmpty then 0 else 1) < 30)) = true := by rfl)
    (hline : (apos.endLine == cpos.line) = true := by rfl) (hs : starEach [a] X.env = (false, eval a X.env) :: starEach [] X.env := by rfl) (hplain : (backTo cpos (starEach [] X.env)).any (·.1) = false := by rfl) :
    PE X (.Call (.Attribute o "index" apos) [a] [] cpos) (tD X.K E (placeP te ta)) := by
  refine ⟨fun pins s σ H Q I h => ?_⟩
  obtain ⟨W, st, h⟩ := h
  have first : tD X.K E te σ H fun v H1 => ∃ p ob xs, v = .ref p ∧ H1 p = some (.frz ob (.tup xs)) ∧ ob.dict = none ∧
      tA1 X.K E ta σ H1 (fun u H2 => ∃ (ys : List Str) (z : Str) (j : Nat), u = .str z ∧ SqT X.K H2 p (ys.map V.str) ∧ ys[j]? = some z ∧ (∀ m, m < j → ys[m]? ≠ some z) ∧ Q (.int (j : Nat)) H2) := by
    refine ⟨W, st, h.seq.mono fun x st1 W1 H1 e1 i1 q v rv => ?_⟩
    obtain ⟨Δ0, r0, s0, L0, I0, eq, w0⟩ := q.2
    simp only at eq
    split at eq
    · rename_i ds
      cases rv with
      | @ftp p ob xs _ n hf hd rs =>
        refine ⟨p, ob, xs, rfl, hf, hd, ?_⟩
        have h4 : tGw X.K W1 st1 E (fun Δ st => bd (ta Δ st) fun d st2 => (placeF d ds).map fun r => (.ok r, st2)) σ H1 (fun r _ W' H' => ∀ v, Rp X.K W' H' v r → Q v H') := ⟨Δ0, r0, s0, L0, I0, eq, w0⟩
        refine ⟨W1, st1, h4.seq.mono fun d st2 W2 H2 e2 i2 q2 u ru => ?_⟩
        obtain ⟨Δ, r, L, I2, e, k⟩ := q2.2.val (m := fun _ => placeF d ds)
        unfold placeF at e
        split at e
        · rename_i z
          cases es : strsD ds with
          | none => rw [es] at e; cases e
          | some ss =>
            rw [es] at e
            simp only [Option.bind] at e
            split at e
            · rename_i hm
              cases e
              cases ru
              have rs2 := rs.to e2
              rw [strsD_of es] at rs2
              have hx := rs2.strs
              have hi := List.idxOf_lt_length_of_mem hm
              refine ⟨ss, z, ss.idxOf z, rfl, ?_, ?_, fun m hlt hc => ?_, k W2 H2 (Le.refl _ _) I2 _ (.int _)⟩
              · rw [← hx]
                exact .inl (.inr ⟨ob, e2.ext _ _ (fun zz => n (W1.sub _ zz)) hf⟩)
              · rw [List.getElem?_eq_getElem hi, List.getElem_idxOf hi]
              · have hml : m < ss.length := by omega
                rw [List.getElem?_eq_getElem hml] at hc
                have e1 : ss[m] = z := Option.some.inj hc
                have := List.not_of_lt_findIdx (p := (· == z)) (xs := ss) hlt
                simp [e1] at this
            · cases e
        · cases e
    · cases eq
  refine wpAny_Call_method_late hbase hfew hline rfl (thn (ho.run pins s σ H _ I first) fun v s1 ⟨x, H1, I1, r1, p, ob, xs, ex, hf, hd, q1⟩ => ?_)
  subst ex
  obtain rfl : v = Value.ref p := r1
  obtain ⟨hg, _, its, _, o', ho', hc', _⟩ := (show ObjOk X.prog X.w H1 s1.heap p (.frz ob (.tup xs)) from I1.hok p _ hf)
  have hty : s1.TypeIs (.ref p) "tuple" := ⟨o', ho', hc'⟩
  refine ⟨"tuple", "tuple.index", PySem.F.plainAttrs_tuple, PySem.F.slot_tuple_index, PySem.F.type_tuple_index, hty, (fun b e => by cases e; exact ⟨ob, hg, hd⟩), ?_⟩
  have hA := (pa_cons ha pa_nil hs).run cpos pins s1 σ H1 (fun vs H2 => ∃ u, vs = [u] ∧ ∃ (ys : List Str) (z : Str) (j : Nat), u = .str z ∧ SqT X.K H2 p (ys.map V.str) ∧ ys[j]? = some z ∧ (∀ m, m < j → ys[m]? ≠ some z) ∧ Q (.int (j : Nat)) H2) I1 ?_
  · rw [hs] at hA ⊢
    refine Calls.callWith_builtin (by show (false || (backTo cpos (starEach [] X.env)).any (·.1)) = false; rw [hplain] <;> rfl) (Calls.evalArgs_plain ?_)
    exact thn hA fun us s2 ⟨vs, H2, I2, r2, u, ev, ys, z, j, eu, hq, g1, g2, q2⟩ => by
      subst ev
      subst eu
      exact mt_tup_index pins s2 σ H2 (.ref p) [.str z] (.ref p) us Q I2 rfl r2 ⟨p, ys, z, j, rfl, rfl, hq, g1, g2, q2⟩
  · obtain ⟨W1, st1, q1⟩ := q1
    exact ⟨W1, st1, q1.mono fun d st2 W2 H2 e2 i2 q u ru => ⟨u, rfl, q u ru⟩⟩
end
end Dn

set_option Elab.async false
set_option linter.all false
set_option maxRecDepth 100000
set_option maxHeartbeats 4000000
namespace Dn
open PySem PySem.Spec PyProof.Rows L2
/-! ### x in o, x not in o, o == p of own objects -/
def negB (neg : Bool) (r : D) : Option D := (blOf r).map fun b => D.bl (if neg then !b else b)
/-- an own object's def with two values, whose answer is a bool -/
def ownP2 (C : Addr) (F : FDen) (neg : Bool) (tx to : EDen) : EDen := fun Δ st => bd (tx Δ st) fun x st1 => bd (to Δ st1) fun o st2 => match insOf st2 C o with
  | some _ => bd (F [o, x] st2) fun r st3 => (negB neg r).map fun d => (.ok d, st3)
  | none => none
section
variable {X : Cx} {E : XK} {k : Nat} {f C : Addr} {fd : FuncData} {ps : List Str} {F : FDen} {a b : Expr} {ta tb : EDen} {pos : Pos}
def rOwn2 (C : Addr) (sp : Sp) (E : XK) (neg : Bool) : R2 := fun x y H Q => ∃ p dx fs, y = .ref p ∧ H p = some (.ins C dx fs) ∧ sp [.ref p, x] H (fun r H' => ∃ b : Bool, r = .bl b ∧ Q (.bl (if neg then !b else b)) H') E
theorem in_own {sp : Sp} {CX : CXT} (dn : Dun X.K C "__contains__" f) (G : FnOk X.prog X.w X.K X.mg X.base CX k f fd ps sp) (hr : Room k X.A) (hb : Binds X.K fd ps []) (hx : Passes CX X E) : OpR X (compareOp .In) (rOwn2 C sp E false) := by
  intro pins s σ H x y v u Q I rx ry h
  obtain ⟨p, dx, fs, rfl, ea, q⟩ := h
  obtain rfl : u = Value.ref p := ry
  obtain ⟨mA, O, _, _, _, _⟩ := ins_get I.hok ea
  obtain ⟨od, J, _⟩ := O.look
  obtain ⟨m, hF⟩ := I.fr
  refine PySem.W.in_K hF I.ok.mod.kin J dn.at_ dn.fn (wpAny_mono (run_fn (us := [.ref p, v]) (vs := [.ref p, x]) G hr hb .nil hx I (.cons rfl (.cons rx .nil)) q) (fun r s' z => ?_) fun _ _ z => z)
  obtain ⟨w, H', I', rw_, b, rfl, q'⟩ := z
  obtain rfl : r = Value.bool b := rw_
  exact wpAny_pure ⟨.bl b, H', I', rfl, q'⟩
theorem notIn_own {sp : Sp} {CX : CXT} (dn : Dun X.K C "__contains__" f) (G : FnOk X.prog X.w X.K X.mg X.base CX k f fd ps sp) (hr : Room k X.A) (hb : Binds X.K fd ps []) (hx : Passes CX X E) : OpR X (compareOp .NotIn) (rOwn2 C sp E true) := by
  intro pins s σ H x y v u Q I rx ry h
  obtain ⟨p, dx, fs, rfl, ea, q⟩ := h
  obtain rfl : u = Value.ref p := ry
  obtain ⟨mA, O, _, _, _, _⟩ := ins_get I.hok ea
  obtain ⟨od, J, _⟩ := O.look
  obtain ⟨m, hF⟩ := I.fr
  refine PySem.W.notIn_K hF I.ok.mod.kin J dn.at_ dn.fn (wpAny_mono (run_fn (us := [.ref p, v]) (vs := [.ref p, x]) G hr hb .nil hx I (.cons rfl (.cons rx .nil)) q) (fun r s' z => ?_) fun _ _ z => z)
  obtain ⟨w, H', I', rw_, b, rfl, q'⟩ := z
  obtain rfl : r = Value.bool b := rw_
  exact wpAny_pure ⟨.bl (!b), H', I', rfl, q'⟩
theorem tD_own2 {neg : Bool} {σ : L2.St} {H : Hp} {Q : VK} (h : tD X.K E (ownP2 C F neg ta tb) σ H Q) : tOp (rOwn2 C (spF X.K F) E neg) (tD X.K E ta) (tD X.K E tb) σ H Q := by
  obtain ⟨W, st0, h⟩ := h
  refine ⟨W, st0, h.seq.mono fun x st1 W1 H1 e1 i1 q v rv => ⟨W1, st1, q.2.seq.mono fun y st2 W2 H2 e2 i2 q2 u ru => ?_⟩⟩
  obtain ⟨Δ0, r0, s0, L0, I0, eq, w0⟩ := q2.2
  simp only at eq
  split at eq
  · rename_i p hi
    obtain ⟨ns, ds⟩ := p
    obtain ⟨a, dx, fs, rfl, h1, h2, h3⟩ := ins_of I0 ru hi
    have h4 : tGw X.K W2 st2 E (fun (_ : Dl) st => bd (F [y, x] st) fun r st3 => (negB neg r).map fun d => ((.ok d : Except Exc D), st3)) σ H2 (fun r _ W' H' => ∀ v, Rp X.K W' H' v r → Q v H') := ⟨Δ0, r0, s0, L0, I0, eq, w0⟩
    obtain ⟨Δ, r, st', L, I, e, w⟩ := h4.seq (τ := fun _ st => F [y, x] st) (k := fun r _ st3 => (negB neg r).map fun d => ((.ok d : Except Exc D), st3))
    refine ⟨a, dx, fs, rfl, h1, W2, [y, x], st2, r, st', .cons ru (.cons (rv.to e2) .nil), I, e, ?_⟩
    cases r with
    | error z => exact w
    | ok d =>
      intro W' H' le i' v' rv'
      obtain ⟨_, hn⟩ := w W' H' le i'
      obtain ⟨Δ, c, L, I, hb, kk⟩ := hn.val (m := fun _ => negB neg d)
      unfold negB at hb
      cases rv' <;> simp only [blOf] at hb <;> cases hb
      exact ⟨_, rfl, kk W' H' (Le.refl _ _) I _ (.bl _)⟩
  · cases eq
theorem de_inOwn (dn : Dun X.K C "__contains__" f) (G : FnOk X.prog X.w X.K X.mg X.base (L2.CX X.prog X.w) k f fd ps (spF X.K F)) (hr : Room k X.A) (hb : Binds X.K fd ps []) (hx : Passes (L2.CX X.prog X.w) X E) (ha : PE X a (tD X.K E ta)) (hc : PE X b (tD X.K E tb)) (hm : behindInMarks .In b = false := by rfl) :
    PE X (.Compare a [.In] [b] pos) (tD X.K E (ownP2 C F false ta tb)) := imE (pe_cmpR (in_own dn G hr hb hx) ha hc hm) fun _ _ _ => tD_own2
theorem de_notInOwn (dn : Dun X.K C "__contains__" f) (G : FnOk X.prog X.w X.K X.mg X.base (L2.CX X.prog X.w) k f fd ps (spF X.K F)) (hr : Room k X.A) (hb : Binds X.K fd ps []) (hx : Passes (L2.CX X.prog X.w) X E) (ha : PE X a (tD X.K E ta)) (hc : PE X b (tD X.K E tb)) (hm : behindInMarks .NotIn b = false := by rfl) :
    PE X (.Compare a [.NotIn] [b] pos) (tD X.K E (ownP2 C F true ta tb)) := imE (pe_cmpR (notIn_own dn G hr hb hx) ha hc hm) fun _ _ _ => tD_own2
/-! ### o == p, both of the class -/
def rOwnEq (C : Addr) (sp : Sp) (E : XK) : R2 := fun x y H Q => ∃ p q dx dy fs gs, x = .ref p ∧ y = .ref q ∧ H p = some (.ins C dx fs) ∧ H q = some (.ins C dy gs) ∧ sp [.ref p, .ref q] H (fun r H' => ∃ b : Bool, r = .bl b ∧ Q (.bl b) H') E
theorem eq_own {sp : Sp} {CX : CXT} (dn : Dun X.K C "__eq__" f) (G : FnOk X.prog X.w X.K X.mg X.base CX k f fd ps sp) (hr : Room k X.A) (hb : Binds X.K fd ps []) (hx : Passes CX X E) : OpR X (compareOp .Eq) (rOwnEq C sp E) := by
  intro pins s σ H x y v u Q I rx ry h
  obtain ⟨p, q, dx, dy, fs, gs, rfl, rfl, ea, eb, z⟩ := h
  obtain rfl : v = Value.ref p := rx
  obtain rfl : u = Value.ref q := ry
  obtain ⟨mA, O, _⟩ := ins_get I.hok ea
  obtain ⟨mB, O', _⟩ := ins_get I.hok eb
  obtain ⟨od, J, _⟩ := O.look
  obtain ⟨od', J', _⟩ := O'.look
  obtain ⟨m, hF⟩ := I.fr
  show wpAny (model X.prog X.w) X.A (richCompare .Eq (.ref p) (.ref q)) (EP X pins σ Q) X.xe s
  refine PySem.W.cmp_K (op := .Eq) (tb := .ref C) hr.units0 hF I.ok.mod.kin J J'.type (by simp [PySem.W.notFirst]) dn.at_ dn.fn (wpAny_mono (run_fn (us := [.ref p, .ref q]) (vs := [.ref p, .ref q]) G hr hb .nil hx I (.cons rfl (.cons rfl .nil)) z) (fun r s' zz => ?_) fun _ _ z => z)
  obtain ⟨w, H', I', rw_, b, rfl, q'⟩ := zz
  obtain rfl : r = Value.bool b := rw_
  exact ⟨.bl b, H', I', rfl, q'⟩
def ownEqP (C : Addr) (F : FDen) (ta tb : EDen) : EDen := fun Δ st => bd (ta Δ st) fun x st1 => bd (tb Δ st1) fun y st2 => match insOf st2 C x, insOf st2 C y with
  | some _, some _ => bd (F [x, y] st2) fun r st3 => (negB false r).map fun d => (.ok d, st3)
  | _, _ => none
theorem de_eqOwn (dn : Dun X.K C "__eq__" f) (G : FnOk X.prog X.w X.K X.mg X.base (L2.CX X.prog X.w) k f fd ps (spF X.K F)) (hr : Room k X.A) (hb : Binds X.K fd ps []) (hx : Passes (L2.CX X.prog X.w) X E) (ha : PE X a (tD X.K E ta)) (hc : PE X b (tD X.K E tb)) (hm : behindInMarks .Eq b = false := by exact nomark _) :
    PE X (.Compare a [.Eq] [b] pos) (tD X.K E (ownEqP C F ta tb)) := by
  refine imE (pe_cmpR (eq_own dn G hr hb hx) ha hc hm) fun σ H Q h => ?_
  obtain ⟨W, st0, h⟩ := h
  refine ⟨W, st0, h.seq.mono fun x st1 W1 H1 e1 i1 q v rv => ⟨W1, st1, q.2.seq.mono fun y st2 W2 H2 e2 i2 q2 u ru => ?_⟩⟩
  obtain ⟨Δ0, r0, s0, L0, I0, eq, w0⟩ := q2.2
  simp only at eq
  split at eq
  · rename_i p p' hi hi'
    obtain ⟨ns, ds⟩ := p
    obtain ⟨ns', ds'⟩ := p'
    obtain ⟨a, dx, fs, rfl, h1, _, _⟩ := ins_of I0 (rv.to e2) hi
    obtain ⟨b, dy, gs, rfl, h1', _, _⟩ := ins_of I0 ru hi'
    have h4 : tGw X.K W2 st2 E (fun (_ : Dl) st => bd (F [x, y] st) fun r st3 => (negB false r).map fun d => ((.ok d : Except Exc D), st3)) σ H2 (fun r _ W' H' => ∀ v, Rp X.K W' H' v r → Q v H') := ⟨Δ0, r0, s0, L0, I0, eq, w0⟩
    obtain ⟨Δ, r, st', L, I, e, w⟩ := h4.seq (τ := fun _ st => F [x, y] st) (k := fun r _ st3 => (negB false r).map fun d => ((.ok d : Except Exc D), st3))
    refine ⟨a, b, dx, dy, fs, gs, rfl, rfl, h1, h1', W2, [x, y], st2, r, st', .cons (rv.to e2) (.cons ru .nil), I, e, ?_⟩
    cases r with
    | error z => exact w
    | ok d =>
      intro W' H' le i' v' rv'
      obtain ⟨_, hn⟩ := w W' H' le i'
      obtain ⟨Δ, c, L, I, hb, kk⟩ := hn.val (m := fun _ => negB false d)
      unfold negB at hb
      cases rv' <;> simp only [blOf] at hb <;> cases hb
      exact ⟨_, rfl, kk W' H' (Le.refl _ _) I _ (.bl _)⟩
  · cases eq
end
end Dn

set_option Elab.async false
set_option linter.all false
set_option maxRecDepth 100000
set_option maxHeartbeats 4000000
namespace Dn
open PySem PySem.Spec PyProof.Rows L2
/-! ### isinstance(x, C), C.NAME, C an own class -/
/-- what of the class C isinstance asks -/
structure IsiC (K : PySem.W.Frag) (C : Addr) : Prop where
  cl : Cls K C
  ha : PySem.W.findIn K (.ref C) "__class__" = some (some (.builtin "object.__class__"))
  hn : PySem.W.specialIn K (.builtin "object.__class__") "__get__" = some (some (.builtin "getset_descriptor.__get__"))
  tk : PySem.W.takesIn K (.builtin "object.__class__") = some true
  hm : PySem.W.mroIn K C (.type "object") = some true
  own : PySem.W.kitOne K (.ref C) (.ref C) = some true
  non : PySem.W.kitOne K (.type "NoneType") (.ref C) = some false
  bl : PySem.W.kitOne K (.type "bool") (.ref C) = some false
  int : PySem.W.kitOne K (.type "int") (.ref C) = some false
  str : PySem.W.kitOne K (.type "str") (.ref C) = some false
  lst : PySem.W.kitOne K (.type "list") (.ref C) = some false
  tup : PySem.W.kitOne K (.type "tuple") (.ref C) = some false
def isC (st : Sta) (C : Addr) (d : D) : Option Bool := match d with
  | .non | .bl _ | .int _ | .str _ | .lst _ | .tup _ | .ftp _ => some false
  | d => (insOf st C d).map fun _ => true
theorem isC_kit {K : PySem.W.Frag} {W : Wd} {H : Hp} {st : Sta} {C : Addr} {v : V} {d : D} {b : Bool} (c : IsiC K C) (I : Holds K W H st) (r : Rp K W H v d) (h : isC st C d = some b) : ∃ u : Value, TyX K H v u ∧ PySem.W.kitOne K u (.ref C) = some b := by
  have go : ∀ {d : D}, Rp K W H v d → (insOf st C d).map (fun _ => true) = some b → ∃ u : Value, TyX K H v u ∧ PySem.W.kitOne K u (.ref C) = some b := fun {d} r h => by
    cases hi : insOf st C d with
    | none => rw [hi] at h; cases h
    | some p =>
      rw [hi] at h
      cases h
      obtain ⟨a, dx, fs, rfl, h1, _, _⟩ := ins_of (ns := p.1) (ds := p.2) I r hi
      exact ⟨.ref C, .base (.ins h1 c.cl c.ha c.hn c.tk c.hm), c.own⟩
  cases r with
  | non => cases h; exact ⟨_, .base .non, c.non⟩
  | bl x => cases h; exact ⟨_, .base (.bl x), c.bl⟩
  | int x => cases h; exact ⟨_, .base (.int x), c.int⟩
  | str x => cases h; exact ⟨_, .base (.str x), c.str⟩
  | lst n s q => cases h; exact ⟨_, .base (.lst s), c.lst⟩
  | tup s q =>
    cases h
    refine ⟨.type "tuple", ?_, c.tup⟩
    rcases s with ⟨_, s | ⟨o, s⟩⟩ | ⟨o, its, n, h1, h2, _⟩
    · exact .base (.tup s)
    · exact .fTuple s
    · exact .kTuple h1 h2
  | ftp n s hd q => cases h; exact ⟨_, .fTuple s, c.tup⟩
  | obj n s z q => exact go (.obj n s z q) h
  | opq v => cases h
  | hnd n e => exact go (.hnd n e) h
def isCP (C : Addr) (ta : EDen) : EDen := fun Δ st => bd (ta Δ st) fun d st1 => (isC st1 C d).map fun b => (.ok (.bl b), st1)
section
variable {X : Cx} {E : XK} {a : Expr} {ta : EDen} {C : Addr} {y f : Str} {p p2 pos : Pos}
theorem de_isiC (c : IsiC X.K C) (hm : X.mg "isinstance" = none) (hm2 : X.mg y = some (.ref C)) (ha : PE X a (tD X.K E ta)) (hg : Gl X "isinstance" := by rfl) (hg2 : Gl X y := by rfl) (hdb : (y == ("__debug__" : Str)) = false := by decide)
    (hs : starEach (a :: [.Name y p2]) X.env = (false, eval a X.env) :: starEach [.Name y p2] X.env := by rfl) (hpl : (backTo pos (starEach [.Name y p2] X.env)).any (·.1) = false := by rfl) (hs2 : starEach ([.Name y p2]) X.env = (false, eval (.Name y p2) X.env) :: starEach [] X.env := by rfl) :
    PE X (.Call (.Name "isinstance" p) [a, .Name y p2] [] pos) (tD X.K E (isCP C ta)) := by
  refine imE (pe_callB call_isi hg hm (by decide +kernel) (pa_cons ha (pa_cons (pe_glob hg2 hm2 (show RelV (.ref C) _ from rfl) hdb) pa_nil hs2) hs) (by decide) (by decide) hs hpl) fun σ H Q h => ?_
  obtain ⟨W, st, h⟩ := h
  refine ⟨W, st, h.seq.mono fun d st1 W1 H1 e1 i1 q v rv => ?_⟩
  obtain ⟨Δ, r, st', L, I, e, k⟩ := q.2
  simp only at e
  cases q0 : isC st1 C d with
  | none => rw [q0] at e; cases e
  | some b0 =>
    rw [q0] at e
    cases e
    obtain ⟨u, hu, hk⟩ := isC_kit c I rv q0
    exact ⟨v, .ref C, u, .ref C, b0, rfl, .own _, hu, hk, k W1 H1 (Le.refl _ _) I _ (.bl _)⟩
/-- C.NAME, a constant of the class -/
theorem de_cval {mc : Value} {v : V} {u : Value} {d : D} (hm : X.mg y = some (.ref C)) (r : ClX.CRead X.K C mc) (kv : ClX.CVal X.K C mc f v u) (rd : ∀ W H', Rp X.K W H' v d) (hg : Gl X y := by rfl) (hdb : (y == ("__debug__" : Str)) = false := by decide)
    (hb : attributeBase (.Name y p) f X.env (eval (.Name y p) X.env) = eval (.Name y p) X.env := by rfl) : PE X (.Attribute (.Name y p) f pos) (tD X.K E (cstP d)) :=
  imE (ClX.pe_cval (pe_glob hg hm (show RelV (.ref C) _ from rfl) hdb) hb) fun σ H Q h => by
    obtain ⟨W, st0, h⟩ := h
    obtain ⟨Δ, x, L, I, e, k⟩ := h.val (m := fun _ => some d)
    cases e
    exact ⟨C, mc, v, u, rfl, r, kv, k W H (Le.refl _ _) I v (rd _ _)⟩
end
end Dn

set_option Elab.async false
set_option linter.all false
set_option maxRecDepth 100000
set_option maxHeartbeats 4000000
namespace Dn
open PySem PySem.Spec PyProof.Rows L2
/-! ### a def with defaults; an object that is still changed behind its making -/
section
variable {P : Program} {w : World} {K : PySem.W.Frag} {mg : Str → Option Value} {base : Heap}
theorem fn_denD {x qual : Str} {params : Arguments} {body : List Stmt} {scope : Scope} {dvs : List V} {kws : List (Str × V)} {f : Addr} {fd : FuncData} {N ps : List Str} {k : Nat} {F : FDen} (τ : SDen) (G : FunD K x qual params body scope dvs kws f fd) (S : FnScope N ps scope) (hlen : ∀ ds st r, F ds st = some r → ds.length = ps.length)
    (hden : ∀ ds st p, F ds st = some p → runD τ N.length ds st = some p)
    (hbody : ∀ (cdv : Value) (A : Around) (outer : List Env) (s : Shared) (H : Hp) (E : XK), Room k (A.deeper (envOfC qual scope s.heap.objs.size f cdv)) → Passes (L2.CX P w) (cxOf (L2.CX P w) P w K mg base N qual scope f cdv A outer s H E) E →
      PassesOwn (model P w) (A.deeper (envOfC qual scope s.heap.objs.size f cdv)) (envOfC qual scope s.heap.objs.size f cdv) (cxOf (L2.CX P w) P w K mg base N qual scope f cdv A outer s H E).xe →
      PSs (cxOf (L2.CX P w) P w K mg base N qual scope f cdv A outer s H E) body (tSD K E τ)) : FnOk P w K mg base (L2.CX P w) (k + 1) f fd ps (spF K F) := by
  refine G.ok S (fun vs H Q E h => ?_) (fun cdv A outer s H vs Q E hr h => ?_)
  · obtain ⟨W, ds, st, r, st', rs, iv, e, _⟩ := h
    rw [rs.length]
    exact hlen ds st _ e
  · obtain ⟨W, ds, st0, r, st', rs, iv, e, wn⟩ := h
    have hp : Passes (L2.CX P w) (cxOf (L2.CX P w) P w K mg base N qual scope f cdv A outer s H E) E := passes_call (takes_of rfl rfl rfl rfl) fun _ _ _ _ e => e
    refine ⟨tSD K E τ, hbody cdv A outer s H E hr hp (passes_of rfl), ?_⟩
    have q := hden ds st0 _ e
    unfold runD at q
    cases hm : τ (ds.map some ++ List.replicate (N.length - ds.length) none) st0 with
    | none => rw [hm] at q; cases q
    | some p =>
      obtain ⟨ro, st1⟩ := p
      rw [hm] at q
      simp only [Option.bind] at q
      refine ⟨W, st0, _, ro, st1, start_loc rs N, iv, hm, ?_⟩
      cases ro with
      | error z =>
        simp only [outR, Option.map] at q
        cases q
        exact wn
      | ok o =>
        cases o with
        | nx Δ1 => simp only [outR, Option.map] at q; cases q; exact fun W' H' e i σ' _ => wn W' H' e i .non .non
        | rt d => simp only [outR, Option.map] at q; cases q; exact fun W' H' e i v r => wn W' H' e i v r
        | bk Δ1 => simp only [outR, Option.map] at q; cases q
        | ct Δ1 => simp only [outR, Option.map] at q; cases q
end
def mkHF (C : Addr) (F : FDen) : FDen := fun ds st => match F (.hnd (st.next + 1) :: ds) { st with own := (st.next + 1, .ins C [] []) :: st.own, next := st.next + 1 } with
  | some (.ok .non, st') => some (.ok (.hnd (st.next + 1)), st')
  | some (.error x, st') => some (.error x, st')
  | _ => none
section
variable {K : PySem.W.Frag} {W : Wd} {H : Hp} {st : Sta} {C : Addr} {F : FDen} {E : XK}
theorem mkH_core {vs : List V} {ds : List D} {r : Except Exc D} {st2 : Sta} {Q : VK} {x dx : Addr} (rs : Rps K W H vs ds) (I : Holds K W H st) (e : mkHF C F ds st = some (r, st2)) (w : Wnt K W E H (fun d _ W' H' => ∀ v, Rp K W' H' v d → Q v H') r st2)
    (nx : H x = none) (ndx : H dx = none) (ne : dx ≠ x) : spF K F (.ref x :: vs) (upd (upd H dx (.own x)) x (.ins C dx [])) (fun v H2 => v = .non ∧ Q (.ref x) H2) E := by
  have s1 : Same H (upd (upd H dx (.own x)) x (.ins C dx [])) := fun a u q => by
    have h1 : a ≠ dx := fun z => by rw [z, ndx] at q; cases q
    have h2 : a ≠ x := fun z => by rw [z, nx] at q; cases q
    rw [upd_ne h2, upd_ne h1]
    exact q
  have le := le_addO (n := st.next + 1) I s1 nx (Nat.lt_succ_self _)
  have I1 := I.addO (c := .ins C [] []) s1 nx rfl ⟨dx, [], upd_same, rfl, .nil⟩
  have new : (W.addO (st.next + 1) x).h (st.next + 1) = some x := if_pos rfl
  unfold mkHF at e
  cases hF : F (.hnd (st.next + 1) :: ds) { st with own := (st.next + 1, .ins C [] []) :: st.own, next := st.next + 1 } with
  | none => rw [hF] at e; cases e
  | some p =>
    obtain ⟨ro, st'⟩ := p
    rw [hF] at e
    refine ⟨W.addO (st.next + 1) x, .hnd (st.next + 1) :: ds, _, ro, st', .cons (.hnd _ new) (rs.to le), I1, hF, ?_⟩
    cases ro with
    | error z =>
      simp only at e
      cases e
      exact fun W' dx' H' le' i' ex => w W' dx' H' (le.trans le') i' ex
    | ok d =>
      cases d with
      | non =>
        simp only at e
        cases e
        intro W' H' le' i' v rv
        cases rv
        exact ⟨rfl, w W' H' (le.trans le') i' _ (.hnd _ (le'.hh _ _ new))⟩
      | _ => simp only at e; cases e
end
section
variable {X : Cx} {E : XK} {k : Nat} {f C : Addr} {fd : FuncData} {ps : List Str} {F : FDen} {x : Str} {p pos : Pos} {a : Expr} {es : List Expr} {tr : ADen} {ds : List Value} {dvs : List V} {dd : List D}
theorem de_makeH (M : Mk X.K C f) (G : FnOk X.prog X.w X.K X.mg X.base (L2.CX X.prog X.w) k f fd ps (spF X.K F)) (hr : Room (k + 1) X.A) (hm : X.mg x = some (.ref C)) (hb : Binds X.K fd ps ds) (hd : Vals dvs ds) (rd : ∀ W H, Rps X.K W H dvs dd) (hx : Passes (L2.CX X.prog X.w) X E)
    (ha : PA X (a :: es) (tAD X.K E tr)) (hg : Gl X x := by rfl) (hdb : (x == ("__debug__" : Str)) = false := by decide) (he : starEach (a :: es) X.env = (false, eval a X.env) :: starEach es X.env := by rfl) (hpl : (backTo pos (starEach es X.env)).any (·.1) = false := by rfl) :
    PE X (.Call (.Name x p) (a :: es) [] pos) (tD X.K E (callP (fun as st => mkHF C F (as ++ dd) st) tr)) := by
  refine imE (pe_make M G hr hg hm hb hd hx ha hdb he hpl) fun σ H Q h => ?_
  obtain ⟨W, st0, h⟩ := h
  refine ⟨W, st0, (h.seq (k := fun as _ st => mkHF C F (as ++ dd) st)).mono fun ds st1 W1 H1 e1 i1 q vs rs => ?_⟩
  obtain ⟨Δ, r, st', L, I, e, w⟩ := q.2
  exact fun x dx nx ndx ne => mkH_core (rs.append (rd _ H1)) I e w nx ndx ne
end
end Dn

set_option Elab.async false
set_option linter.all false
set_option maxRecDepth 100000
set_option maxHeartbeats 4000000
namespace Dn
open PySem PySem.Spec PyProof.Rows L2
theorem units65 {k : Nat} {A : Around} (r : Room k A) : A.units + 65 < cLine := by have := r.un; omega
end Dn

set_option Elab.async false
set_option linter.all false
set_option maxRecDepth 100000
set_option maxHeartbeats 4000000
namespace Dn
open PySem PySem.Spec PyProof.Rows L2
/-! ### o != p, both of an own class with an own == -/
/-- what of the class C != asks -/
structure NeC (K : PySem.W.Frag) (C : Addr) : Prop where
  ne : PySem.W.findIn K (.ref C) "__ne__" = some (some (.builtin "object.__ne__"))
  hm : PySem.W.mroIn K C (.type "object") = some true
section
variable {M : Model} {prog : Program} {w : World} {A : Around} {E : Value → Shared → Prop} {s : Shared} {K : PySem.W.Frag} {x C : Addr} {ox : Obj} {od : Option Obj}
theorem ifBound_ne {args : List Value} {Q : Option Value → Shared → Prop} (X : K.In s.heap) (I : PySem.W.InstAt s.heap x ox C od) (hs : PySem.W.findIn K (.ref C) "__ne__" = some (some (.builtin "object.__ne__")))
    (h : wpAny M A (call (.builtin "object.__ne__") (.ref x :: args)) (fun v => Q (some v)) E s) : wpAny M A (callSpecialIfBound? (.ref x) "__ne__" args) Q E s := by
  simp only [callSpecialIfBound?, bindSpecialIfBound?]
  refine wpAny_holding (wpAny_bind (wpAny_bind (wpAny_bind (I.type.here ((PySem.W.looks_findIn X hs).here ?_)))))
  refine wpAny_bind (wpAny_askSetting (wpAny_ite ?_))
  have fin : wpAny M A (call (.builtin "object.__ne__") ([.ref x] ++ args) >>= fun v => pure (some v)) Q E s := wpAny_bind (wpAny_mono h (fun v s' h' => wpAny_pure h') fun _ _ h' => h')
  split
  · exact wpAny_bind (wpAny_of_eq (F.cmp_object.ne.bind _) (wpAny_pure (by exact fin)))
  · exact wpAny_tryCatch (wpAny_bind (wpAny_of_eq (F.cmp_object.ne.bind _) (wpAny_pure (by exact fin))))
theorem entry_ne {f y : Addr} {Q : Fin → Shared → Prop} (hu : A.units < cLine) (X : K.In s.heap) (I : PySem.W.InstAt s.heap x ox C od) (hs : PySem.W.findIn K (.ref C) "__eq__" = some (some (.ref f))) (hf : PySem.W.isFn K (.ref f) = true)
    (h : wpAny (model prog w) A (call (.ref f) [.ref x, .ref y]) (fun v s' => ∃ b, v = .bool b ∧ Q (.done (.ret (.bool (!b)))) s') E s) :
    wpAny (model prog w) A (Builtin.«object.__ne__» ⟨[.ref x, .ref y], []⟩) Q E s := by
  unfold Builtin.«object.__ne__»
  repeat (first
    | with_reducible refine wpAny_cRoomFor hu ?_
    | (refine wpAny_bind (m := callSpecialIfBound? (.ref x) (Str.ofString "__eq__") [.ref y])
        (PySem.W.ifBound_K X I hs hf (wpAny_mono h (fun r s' hr => by
          obtain ⟨b, rfl, hq⟩ := hr
          repeat (first | exact hq | exact wpAny_pure hq | exact wpAny_truthy_bool hq | (refine wpAny_bind (m := truthy (.bool _)) (wpAny_truthy_bool ?_)) | wp_step)) fun _ _ e => e)))
    | wp_step)
theorem call_ne {f y : Addr} {Q : Value → Shared → Prop} (hu : A.units + 1 < cLine) (X : K.In s.heap) (I : PySem.W.InstAt s.heap x ox C od) (n : NeC K C) (hs : PySem.W.findIn K (.ref C) "__eq__" = some (some (.ref f))) (hf : PySem.W.isFn K (.ref f) = true)
    (h : wpAny (model prog w) A.in1 (call (.ref f) [.ref x, .ref y]) (fun v s' => ∃ b, v = .bool b ∧ Q (.bool (!b)) s') E s) :
    wpAny (model prog w) A (call (.builtin "object.__ne__") [.ref x, .ref y]) Q E s :=
  wpAny_call (codeAny_call_builtin F.cmp_object.ne.plain F.cmpEntry_ne (PySem.W.check_slot F.cmpKind_ne F.cmpSplit_ne (I.type.andThen (PySem.W.looks_mroIn X n.hm)) (F.cmpArgs_ne _ _)
    (entry_ne (A := A.in1) hu X I hs hf (wpAny_mono h (fun v s' hv => by
      obtain ⟨b, rfl, hq⟩ := hv
      exact ⟨b, rfl, hq⟩) fun _ _ e => e))))
theorem ne_K {f y : Addr} {Q : Value → Shared → Prop} (hu : A.units + 1 < cLine) (X : K.In s.heap) (I : PySem.W.InstAt s.heap x ox C od) (hb : PySem.W.Looks (model prog w) s.heap (typeOf (.ref y)) (.ref C)) (n : NeC K C) (hs : PySem.W.findIn K (.ref C) "__eq__" = some (some (.ref f))) (hf : PySem.W.isFn K (.ref f) = true)
    (h : wpAny (model prog w) A.in1 (call (.ref f) [.ref x, .ref y]) (fun v s' => ∃ b, v = .bool b ∧ Q (.bool (!b)) s') E s) : wpAny (model prog w) A (richCompare .NotEq (.ref x) (.ref y)) Q E s := by
  have one : wpAny (model prog w) A (tryCompare (.ref x) "__ne__" (.ref y)) (fun r s' => ∃ v, r = some v ∧ Q v s') E s := by
    unfold tryCompare
    refine wpAny_bind (ifBound_ne X I n.ne (call_ne hu X I n hs hf (wpAny_mono h (fun v s' hv => ?_) fun _ _ e => e)))
    obtain ⟨b, rfl, hq⟩ := hv
    exact ⟨b, rfl, wpAny_pure ⟨_, rfl, hq⟩⟩
  unfold richCompare
  simp only [oneThing_ref]
  refine wpAny_holding (wpAny_bind (wpAny_cRoomFor (Nat.lt_of_succ_lt hu) ?_))
  rw [cmpInfo_NotEq]
  dsimp only
  refine wpAny_bind (I.type.here (wpAny_bind (hb.here ?_)))
  rw [show (Value.ref C != Value.ref C) = false from by simp]
  simp only [Bool.false_eq_true, if_false]
  refine wpAny_bind (wpAny_pure ?_)
  simp only [Bool.false_eq_true, if_false]
  refine wpAny_bind (wpAny_mono one (fun r s' z => ?_) fun _ _ e => e)
  obtain ⟨v, rfl, hq⟩ := z
  exact wpAny_pure hq
end
section
variable {X : Cx} {E : XK} {k : Nat} {f C : Addr} {fd : FuncData} {ps : List Str} {F : FDen} {a b : Expr} {ta tb : EDen} {pos : Pos}
theorem run_fn1 {CX : CXT} {sp : Sp} {pins : List (Addr × Obj)} {σ : L2.St} {H : Hp} {s : Shared} {Q : VK} {us : List Value} {vs : List V} (G : FnOk X.prog X.w X.K X.mg X.base CX k f fd ps sp) (hr : Room k X.A.in1) (hb : Binds X.K fd ps []) (hx : Passes CX X E)
    (I : Inv X pins σ H s) (r : Vals vs us) (h : sp vs H Q E) : wpAny (model X.prog X.w) X.A.in1 (call (.ref f) us) (EP X pins σ Q) X.xe s := by
  have hl : us.length = ps.length := by rw [← r.length]; exact G.len _ _ _ _ h
  refine wpAny_call (codeAny_mono (G.run X.A.in1 X.stack s H ⟨us, []⟩ us vs Q E hr I.env0.in1 (by
    have := hb s us I.kIn (by rw [List.append_nil]; exact hl)
    rw [List.append_nil] at this
    exact this) r h) fun r s' hq => ?_)
  cases r with
  | error e => exact hx pins σ H s e s' I hq
  | ok fl =>
    cases fl with
    | ret u => exact I.after hq
    | next => exact False.elim hq
    | brk => exact False.elim hq
    | cont => exact False.elim hq
def rOwnNe (C : Addr) (sp : Sp) (E : XK) : R2 := fun x y H Q => ∃ p q dx dy fs gs, x = .ref p ∧ y = .ref q ∧ H p = some (.ins C dx fs) ∧ H q = some (.ins C dy gs) ∧ sp [.ref p, .ref q] H (fun r H' => ∃ b : Bool, r = .bl b ∧ Q (.bl (!b)) H') E
theorem ne_own {sp : Sp} {CX : CXT} (n : NeC X.K C) (dn : Dun X.K C "__eq__" f) (G : FnOk X.prog X.w X.K X.mg X.base CX k f fd ps sp) (hr : Room (k + 1) X.A) (hb : Binds X.K fd ps []) (hx : Passes CX X E) : OpR X (compareOp .NotEq) (rOwnNe C sp E) := by
  intro pins s σ H x y v u Q I rx ry h
  obtain ⟨p, q, dx, dy, fs, gs, rfl, rfl, ea, eb, z⟩ := h
  obtain rfl : v = Value.ref p := rx
  obtain rfl : u = Value.ref q := ry
  obtain ⟨mA, O, _⟩ := ins_get I.hok ea
  obtain ⟨mB, O', _⟩ := ins_get I.hok eb
  obtain ⟨od, J, _⟩ := O.look
  obtain ⟨od', J', _⟩ := O'.look
  show wpAny (model X.prog X.w) X.A (richCompare .NotEq (.ref p) (.ref q)) (EP X pins σ Q) X.xe s
  refine ne_K (by have := hr.un; omega) I.kIn J J'.type n dn.at_ dn.fn (wpAny_mono (run_fn1 (us := [.ref p, .ref q]) (vs := [.ref p, .ref q]) G hr.in1 hb hx I (.cons rfl (.cons rfl .nil)) z) (fun r s' zz => ?_) fun _ _ z => z)
  obtain ⟨w, H', I', rw_, b, rfl, q'⟩ := zz
  obtain rfl : r = Value.bool b := rw_
  exact ⟨b, rfl, .bl (!b), H', I', rfl, q'⟩
def ownNeP (C : Addr) (F : FDen) (ta tb : EDen) : EDen := fun Δ st => bd (ta Δ st) fun x st1 => bd (tb Δ st1) fun y st2 => match insOf st2 C x, insOf st2 C y with
  | some _, some _ => bd (F [x, y] st2) fun r st3 => (negB true r).map fun d => (.ok d, st3)
  | _, _ => none
theorem de_neOwn (n : NeC X.K C) (dn : Dun X.K C "__eq__" f) (G : FnOk X.prog X.w X.K X.mg X.base (L2.CX X.prog X.w) k f fd ps (spF X.K F)) (hr : Room (k + 1) X.A) (hb : Binds X.K fd ps []) (hx : Passes (L2.CX X.prog X.w) X E) (ha : PE X a (tD X.K E ta)) (hc : PE X b (tD X.K E tb)) (hm : behindInMarks .NotEq b = false := by exact nomark _) :
    PE X (.Compare a [.NotEq] [b] pos) (tD X.K E (ownNeP C F ta tb)) := by
  refine imE (pe_cmpR (ne_own n dn G hr hb hx) ha hc hm) fun σ H Q h => ?_
  obtain ⟨W, st0, h⟩ := h
  refine ⟨W, st0, h.seq.mono fun x st1 W1 H1 e1 i1 q v rv => ⟨W1, st1, q.2.seq.mono fun y st2 W2 H2 e2 i2 q2 u ru => ?_⟩⟩
  obtain ⟨Δ0, r0, s0, L0, I0, eq, w0⟩ := q2.2
  simp only at eq
  split at eq
  · rename_i p p' hi hi'
    obtain ⟨ns, ds⟩ := p
    obtain ⟨ns', ds'⟩ := p'
    obtain ⟨a, dx, fs, rfl, h1, _, _⟩ := ins_of I0 (rv.to e2) hi
    obtain ⟨b, dy, gs, rfl, h1', _, _⟩ := ins_of I0 ru hi'
    have h4 : tGw X.K W2 st2 E (fun (_ : Dl) st => bd (F [x, y] st) fun r st3 => (negB true r).map fun d => ((.ok d : Except Exc D), st3)) σ H2 (fun r _ W' H' => ∀ v, Rp X.K W' H' v r → Q v H') := ⟨Δ0, r0, s0, L0, I0, eq, w0⟩
    obtain ⟨Δ, r, st', L, I, e, w⟩ := h4.seq (τ := fun _ st => F [x, y] st) (k := fun r _ st3 => (negB true r).map fun d => ((.ok d : Except Exc D), st3))
    refine ⟨a, b, dx, dy, fs, gs, rfl, rfl, h1, h1', W2, [x, y], st2, r, st', .cons (rv.to e2) (.cons ru .nil), I, e, ?_⟩
    cases r with
    | error z => exact w
    | ok d =>
      intro W' H' le i' v' rv'
      obtain ⟨_, hn⟩ := w W' H' le i'
      obtain ⟨Δ, c, L, I, hb, kk⟩ := hn.val (m := fun _ => negB true d)
      unfold negB at hb
      cases rv' <;> simp only [blOf] at hb <;> cases hb
      exact ⟨_, rfl, kk W' H' (Le.refl _ _) I _ (.bl _)⟩
  · cases eq
end
end Dn

set_option Elab.async false
set_option linter.all false
set_option maxRecDepth 100000
set_option maxHeartbeats 4000000
namespace Dn
open PySem PySem.Spec PyProof.Rows L2
/-! ### list comprehensions with two sources -/
theorem Lw.refl (W : Wd) (H : Hp) : Lw W H W H := ⟨fun _ _ _ h => h, fun _ h => .inl h, fun _ _ h => h⟩
theorem Lw.trans {W W1 W2 : Wd} {H H1 H2 : Hp} (a : Lw W H W1 H1) (b : Lw W1 H1 W2 H2) : Lw W H W2 H2 := by
  have key : ∀ x o, ¬ W.N x → H x = some o → ¬ W1.N x := fun x o n h z => by
    rcases a.newN x z with q | q
    · exact n q
    · rw [h] at q; cases q
  refine ⟨fun x o n h => b.ext x o (key x o n h) (a.ext x o n h), fun x h => ?_, fun n x h => b.hh n x (a.hh n x h)⟩
  rcases b.newN x h with q | q
  · exact a.newN x q
  · by_cases n : W.N x
    · exact .inl n
    · cases e : H x with
      | none => exact .inr rfl
      | some o => rw [a.ext x o n e] at q; cases q
theorem LocD.tow {K : PySem.W.Frag} {W W1 : Wd} {H H1 : Hp} {σ : L2.St} {Δ : Dl} (h : LocD K W H σ Δ) (e : Lw W H W1 H1) : LocD K W1 H1 σ Δ := ⟨h.1, fun i d q => by
  obtain ⟨v, h1, h2⟩ := h.2 i d q
  exact ⟨v, h1, h2.tow e⟩⟩
theorem in_it {J : It} {n : Nat} {G : Hp → Prop} {Y : Nat → Hp → V → Hp → Prop} (w : Walk J n G Y) {g : TG} {tt : TT} {te : TE} {vs : List Nat} {σ : L2.St} {H1 : Hp} {D : Addr} {Nx : Hp → Prop} (Pv : Nat → Hp → Prop) (h0 : Pv 0 H1) (hG : ∀ i H, i ≤ n → Pv i H → G H)
    (hs : ∀ i x H H', i < n → Pv i H → Y i H x H' → g x (wipe σ vs) H' fun σ2 H2 => wipe σ2 vs = wipe σ vs ∧ tt σ2 H2 fun b H3 =>
      if b = true then te σ2 H3 fun y H4 => ∃ acc, H4 D = some (.lst acc) ∧ acc.length < sizeLine ∧ Pv (i + 1) (upd H4 D (.lst (acc ++ [y]))) else Pv (i + 1) H3) (hd : ∀ H, Pv n H → Nx H) :
    ∃ W1 : Nat → Nat → Hp → Prop, (∃ m, W1 0 m H1) ∧ ∀ j k H, W1 j k H →
      (J.stop j H ∧ Nx H) ∨ (J.go j H ∧ ∃ Nx1 : Hp → Prop, (∀ H', Nx1 H' → ∃ k', k' < k ∧ W1 (j + 1) k' H') ∧ ∀ x H', J.yld j H x H' → g x (wipe σ vs) H' fun σ2 H2 => wipe σ2 vs = wipe σ vs ∧ tt σ2 H2 fun b H3 =>
        if b = true then te σ2 H3 fun y H4 => ∃ acc, H4 D = some (.lst acc) ∧ acc.length < sizeLine ∧ Nx1 (upd H4 D (.lst (acc ++ [y]))) else Nx1 H3) := by
  refine ⟨fun i m H => m = n - i ∧ i ≤ n ∧ Pv i H, ⟨n, by simp, Nat.zero_le _, h0⟩, ?_⟩
  rintro i m H ⟨rfl, hi, p⟩
  have q := hG i H hi p
  by_cases hlt : i < n
  · refine .inr ⟨w.goes i H hlt q, Pv (i + 1), fun H' p' => ⟨n - (i + 1), by omega, rfl, hlt, p'⟩, fun x H' y => hs i x H H' hlt p (w.yields i H x H' hlt q y)⟩
  · have e : i = n := by omega
    subst e
    exact .inl ⟨w.stops H q, hd H p⟩
def lc2Go (t : Tgt) (tt : TDen) (ti1 : IDen) (t1 : Tgt) (tt1 : TDen) (te : EDen) (vs1 : List Nat) (Δ : Dl) : List D → Sta → List D → Mo D
  | [], st, acc => some (.ok (.lst acc), st)
  | d :: ds, st, acc => (t.put d Δ).bind fun Δ1 => match tt Δ1 st with
    | some (.ok true, st1) => (match ti1 Δ1 st1 with
      | some (.ok es, st2) => (match lcGo t1 tt1 te (wipeD Δ1 vs1) es st2 acc with
        | some (.ok (.lst acc2), st3) => lc2Go t tt ti1 t1 tt1 te vs1 Δ ds st3 acc2
        | _ => none)
      | _ => none)
    | some (.ok false, st1) => lc2Go t tt ti1 t1 tt1 te vs1 Δ ds st1 acc
    | _ => none
def lc2P (ti : IDen) (t : Tgt) (tt : TDen) (ti1 : IDen) (t1 : Tgt) (tt1 : TDen) (te : EDen) (vs vs1 : List Nat) : EDen := fun Δ st => bd (ti Δ st) fun ds st1 => lc2Go t tt ti1 t1 tt1 te vs1 (wipeD Δ vs) ds st1 []
section
variable {X : Cx} {E : XK} {σ : L2.St} {H : Hp} {Q : VK}
/-- the list D under construction, seen from the world in which it did not stand yet -/
structure Acc (K : PySem.W.Frag) (W1 : Wd) (H1 : Hp) (D : Addr) (W : Wd) (H : Hp) (st : Sta) (acc : List Dn.D) (vacc : List V) : Prop where
  le : Le W1 H1 W H
  hN : W.N D
  hM : ¬ W.M D
  hh : Holds K W H st
  hD : H D = some (.lst vacc)
  ra : Rps K W H vacc acc
theorem Acc.go {K : PySem.W.Frag} {W1 W W' : Wd} {H1 H H' : Hp} {D : Addr} {st st' : Sta} {acc : List Dn.D} {vacc : List V} (a : Acc K W1 H1 D W H st acc vacc) (e : Le W H W' H') (i : Holds K W' H' st') : Acc K W1 H1 D W' H' st' acc vacc := by
  have hD := e.ext _ _ a.hM a.hD
  refine ⟨a.le.trans e, e.keep D a.hN, fun z => ?_, i, hD, a.ra.to e⟩
  rcases e.newM D z with z | z
  · exact a.hM z
  · rw [a.hD] at z; cases z
theorem Acc.push {K : PySem.W.Frag} {W1 W : Wd} {H1 H : Hp} {D : Addr} {st : Sta} {acc : List Dn.D} {vacc : List V} {v : V} {y : Dn.D} (nD : H1 D = none) (a : Acc K W1 H1 D W H st acc vacc) (rv : Rp K W H v y) : Acc K W1 H1 D W (upd H D (.lst (vacc ++ [v]))) st (acc ++ [y]) (vacc ++ [v]) := by
  refine ⟨⟨fun x o n h => ?_, a.le.newM, a.le.newN, a.le.keep, a.le.hh, a.le.newH, fun x h z => ?_⟩, a.hN, a.hM, a.hh.off a.hN a.hM, upd_same, (a.ra.append (.cons rv .nil)).tow (lw_upd a.hN)⟩
  · rw [upd_ne (ne_of_none h nD)]
    exact a.le.ext x o n h
  · by_cases hp : x = D
    · subst hp; rw [upd_same] at z; cases z
    · rw [upd_ne hp] at z; exact a.le.stay x h z
theorem tD_lc2 {ti ti1 : IDen} {t t1 : Tgt} {tt tt1 : TDen} {te : EDen} {vs vs1 : List Nat} (hs : ∀ i ∈ t.slots, i ∈ vs) (hs1 : ∀ i ∈ t1.slots, i ∈ vs1) (h : tD X.K E (lc2P ti t tt ti1 t1 tt1 te vs vs1) σ H Q) :
    tLc2 (tI X.K E ti) (t.g X.K) (tTD X.K E0 tt) (tI X.K E0 ti1) (t1.g X.K) (tTD X.K E0 tt1) (tD X.K E0 te) vs vs1 σ H Q := by
  obtain ⟨W0, st0, Δ0, r0, st0', L0, iv0, e0, k0⟩ := h
  unfold lc2P bd at e0
  cases hm : ti Δ0 st0 with
  | none => rw [hm] at e0; cases e0
  | some p =>
  obtain ⟨rr, st1⟩ := p
  rw [hm] at e0
  cases rr with
  | error x =>
    simp only at e0
    cases e0
    exact ⟨W0, st0, Δ0, .error x, _, L0, iv0, hm, k0⟩
  | ok ds =>
    simp only at e0
    refine ⟨W0, st0, Δ0, .ok ds, st1, L0, iv0, hm, fun W1 H1 e1 i1 J wk D nD => ?_⟩
    obtain ⟨G, Y, w, hG, hY⟩ := wk.ex
    have Lw0 : LocD X.K W1 H1 (L2.wipe σ vs) (wipeD Δ0 vs) := (L0.to e1).wipe vs
    have nMD : ¬ W1.M D := fun m => i1.there D (W1.sub _ m) nD
    let Pv : Nat → Hp → Prop := fun i H2 => ∃ W2 st acc vacc, Acc X.K W1 H1 D W2 H2 st acc vacc ∧ lc2Go t tt ti1 t1 tt1 te vs1 (wipeD Δ0 vs) (ds.drop i) st acc = some (r0, st0')
    refine ⟨fun i m H => m = ds.length - i ∧ i ≤ ds.length ∧ Pv i H, ⟨ds.length, by simp, Nat.zero_le _, ?_⟩, ?_⟩
    · exact ⟨W1.addN D, st1, [], [], ⟨le_addN nD, .inr rfl, nMD, i1.addN nD, upd_same, .nil⟩, by rw [List.drop_zero]; exact e0⟩
    rintro i m H2 ⟨rfl, hi, p⟩
    have hGi : G H2 := by
      obtain ⟨W2, _, _, _, a, _⟩ := p
      exact hG W2 H2 a.le.w
    by_cases hlt : i < ds.length
    · refine .inr ⟨w.goes i H2 hlt hGi, Pv (i + 1), fun H' p' => ⟨ds.length - (i + 1), by omega, rfl, hlt, p'⟩, fun x H3 hy0 => ?_⟩
      have hy := w.yields i H2 x H3 hlt hGi hy0
      obtain ⟨W2, st, acc, vacc, a, eg⟩ := p
      have hd : ds[i]? = some ds[i] := List.getElem?_eq_getElem hlt
      obtain ⟨sm, rx⟩ := hY i W2 H2 st x H3 ds[i] a.le.w a.hh hd hy
      have a3 := a.go (Le.of sm) (a.hh.same sm)
      rw [List.drop_eq_getElem_cons hlt] at eg
      simp only [lc2Go] at eg
      cases hp2 : t.put ds[i] (wipeD Δ0 vs) with
      | none => rw [hp2] at eg; cases eg
      | some Δ1 =>
        rw [hp2] at eg
        simp only [Option.bind] at eg
        refine put_ok t (Lw0.to a3.le) rx hp2 fun σ2 L2' hlen hoth => ⟨wipe_same hlen hoth hs, ?_⟩
        cases ht : tt Δ1 st with
        | none => rw [ht] at eg; cases eg
        | some q =>
          obtain ⟨rb, st2⟩ := q
          rw [ht] at eg
          cases rb with
          | error z => cases eg
          | ok b =>
            refine ⟨W2, st, Δ1, .ok b, st2, L2', a3.hh, ht, fun W4 H4 e4 i4 => ?_⟩
            have a4 := a3.go e4 i4
            cases b with
            | false => exact iteF ⟨W4, st2, acc, vacc, a4, eg⟩
            | true =>
              refine iteT ?_
              simp only at eg
              cases hti : ti1 Δ1 st2 with
              | none => rw [hti] at eg; cases eg
              | some q1 =>
                obtain ⟨ri, st3⟩ := q1
                rw [hti] at eg
                cases ri with
                | error z => cases eg
                | ok es =>
                  simp only at eg
                  cases hlc : lcGo t1 tt1 te (wipeD Δ1 vs1) es st3 acc with
                  | none => rw [hlc] at eg; cases eg
                  | some q2 =>
                    obtain ⟨rl, st4⟩ := q2
                    rw [hlc] at eg
                    cases rl with
                    | error z => cases eg
                    | ok dl =>
                      cases dl with
                      | lst acc2 =>
                        simp only at eg
                        refine ⟨W4, st2, Δ1, .ok es, st3, L2'.to e4, i4, hti, fun W5 H5 e5 i5 J1 wk1 => ?_⟩
                        obtain ⟨G1, Y1, w1, hG1, hY1⟩ := wk1.ex
                        have a5 := a4.go e5 i5
                        have Lw1 : LocD X.K W5 H5 (L2.wipe σ2 vs1) (wipeD Δ1 vs1) := ((L2'.to e4).to e5).wipe vs1
                        refine in_it w1 (fun j H' => ∃ W' st' acc' vacc', Acc X.K W1 H1 D W' H' st' acc' vacc' ∧ Lw W5 H5 W' H' ∧ lcGo t1 tt1 te (wipeD Δ1 vs1) (es.drop j) st' acc' = some (.ok (.lst acc2), st4))
                          ⟨W5, st3, acc, vacc, a5, Lw.refl _ _, by rw [List.drop_zero]; exact hlc⟩ (fun j H' _ hp => ?_) (fun j x1 H' H6 hj hp hy1 => ?_) (fun H' hp => ?_)
                        · obtain ⟨W', _, _, _, _, lw, _⟩ := hp
                          exact hG1 W' H' lw
                        · obtain ⟨W', st', acc', vacc', a', lw, el⟩ := hp
                          have hd1 : es[j]? = some es[j] := List.getElem?_eq_getElem hj
                          obtain ⟨sm1, rx1⟩ := hY1 j W' H' st' x1 H6 es[j] lw a'.hh hd1 hy1
                          have a6 := a'.go (Le.of sm1) (a'.hh.same sm1)
                          have lw6 := lw.trans (Le.of sm1).w
                          rw [List.drop_eq_getElem_cons hj] at el
                          simp only [lcGo] at el
                          cases hp3 : t1.put es[j] (wipeD Δ1 vs1) with
                          | none => rw [hp3] at el; cases el
                          | some Δ2 =>
                            rw [hp3] at el
                            simp only [Option.bind] at el
                            refine put_ok t1 (Lw1.tow lw6) rx1 hp3 fun σ3 L3 hlen1 hoth1 => ⟨wipe_same hlen1 hoth1 hs1, ?_⟩
                            cases ht1 : tt1 Δ2 st' with
                            | none => rw [ht1] at el; cases el
                            | some q3 =>
                              obtain ⟨rb1, st5⟩ := q3
                              rw [ht1] at el
                              cases rb1 with
                              | error z => cases el
                              | ok b1 =>
                                refine ⟨W', st', Δ2, .ok b1, st5, L3, a6.hh, ht1, fun W7 H7 e7 i7 => ?_⟩
                                have a7 := a6.go e7 i7
                                have lw7 := lw6.trans e7.w
                                cases b1 with
                                | false => exact iteF ⟨W7, st5, acc', vacc', a7, lw7, el⟩
                                | true =>
                                  refine iteT ?_
                                  simp only at el
                                  cases hte : te Δ2 st5 with
                                  | none => rw [hte] at el; cases el
                                  | some q4 =>
                                    obtain ⟨ry, st6⟩ := q4
                                    rw [hte] at el
                                    cases ry with
                                    | error z => cases el
                                    | ok y =>
                                      simp only at el
                                      split at el
                                      · rename_i hb
                                        refine ⟨W7, st5, Δ2, .ok y, st6, L3.to e7, i7, hte, fun W8 H8 e8 i8 v rv => ?_⟩
                                        have a8 := a7.go e8 i8
                                        exact ⟨vacc', a8.hD, by rw [a8.ra.length]; exact Nat.lt_of_lt_of_le hb (by decide), W8, st6, acc' ++ [y], vacc' ++ [v], a8.push nD rv, (lw7.trans e8.w).trans (lw_upd a8.hN), el⟩
                                      · cases el
                        · obtain ⟨W', st', acc', vacc', a', lw, el⟩ := hp
                          rw [List.drop_length] at el
                          simp only [lcGo] at el
                          cases el
                          exact ⟨W', _, _, vacc', a', eg⟩
                      | _ => cases eg
    · have ei : i = ds.length := by omega
      subst ei
      refine .inl ⟨w.stops H2 hGi, ?_⟩
      obtain ⟨W2, st, acc, vacc, a, eg⟩ := p
      rw [List.drop_length] at eg
      simp only [lc2Go] at eg
      cases eg
      exact k0 (W2.delN D a.hM) H2 (e1.trans (a.le.delN fun z => i1.there D z nD)) a.hh.delN _ (.lst (fun z => z.2 rfl) a.hD (a.ra.tow lw_delN))
theorem de_lc2 {elt iter iter1 : Expr} {ifs ifs1 : List Expr} {scope : Scope} (t t1 : Tgt) (own : List (Str × Nat)) (vs1 : List Nat) {pos : Pos} {tg tg1 : Expr} {ti ti1 : IDen} {tt tt1 : TDen} {te : EDen} (hc : X.calm = true) (hN : X.N.Nodup) (hs : ∀ i ∈ t.slots, i ∈ own.map (·.2)) (hs1 : ∀ i ∈ t1.slots, i ∈ vs1) (hv : ∀ i ∈ vs1, i ∈ own.map (·.2)) (hi : PI X tg iter (tI X.K E ti)) (ok : BlkOk X.N X.env.scope scope own)
    (hg : ∀ (s : Shared) (H : Hp) (C : Addr) (cl : List (Str × Addr)) (fp : List Addr), PG (X.blk s H scope (compEnvC scope cl C X.env) fp) tg (t.g X.K))
    (ht : ∀ (s : Shared) (H : Hp) (C : Addr) (cl : List (Str × Addr)) (fp : List Addr), PTs (X.blk s H scope (compEnvC scope cl C X.env) fp) ifs (tTD X.K E0 tt))
    (hi1 : ∀ (s : Shared) (H : Hp) (C : Addr) (cl : List (Str × Addr)) (fp : List Addr), PI (X.blk s H scope (compEnvC scope cl C X.env) fp) tg1 iter1 (tI X.K E0 ti1))
    (hg1 : ∀ (s : Shared) (H : Hp) (C : Addr) (cl : List (Str × Addr)) (fp : List Addr), PG (X.blk s H scope (compEnvC scope cl C X.env) fp) tg1 (t1.g X.K))
    (ht1 : ∀ (s : Shared) (H : Hp) (C : Addr) (cl : List (Str × Addr)) (fp : List Addr), PTs (X.blk s H scope (compEnvC scope cl C X.env) fp) ifs1 (tTD X.K E0 tt1))
    (he : ∀ (s : Shared) (H : Hp) (C : Addr) (cl : List (Str × Addr)) (fp : List Addr), PE (X.blk s H scope (compEnvC scope cl C X.env) fp) elt (tD X.K E0 te)) (hf : ∀ x, foldedSetIterable iter X.env x = pure x := by intro _; rfl) (hf1 : ∀ env x, foldedSetIterable iter1 env x = pure x := by intro _ _; rfl) :
    PE X (.ListComp elt [⟨tg, iter, ifs, 0⟩, ⟨tg1, iter1, ifs1, 0⟩] scope pos) (tD X.K E (lc2P ti t tt ti1 t1 tt1 te (own.map (·.2)) vs1)) :=
  imE (pe_lc2 hc hN hi ok hv hg ht hi1 hg1 ht1 he hf hf1) fun _ _ _ => tD_lc2 hs hs1
end
end Dn

set_option Elab.async false
set_option linter.all false
set_option maxRecDepth 100000
set_option maxHeartbeats 4000000
namespace Dn
open PySem PySem.Spec PyProof.Rows L2
/-! ### enumerate(a tuple) -/
theorem meets_enumerate_new1 {v : Value} {o : Obj} {Hs : Heap → Prop} (B : Begins v o Hs) :
    Meets (Builtin.«enumerate.__new__» ⟨[.type "enumerate", v], []⟩) (fun _ R s => Hs s.heap ∧
      R (.ok (.ret (.ref (s.heap.push o).objs.size))) { s with heap := (s.heap.push o).push { cls := .type "enumerate", data := .fields #[.none, .bool false, .ref s.heap.objs.size, rawInt 0, .none, .none] } }) :=
  .of_wp fun prog w A R s h => by
    obtain ⟨hp, g, d, tk, os⟩ := s; obtain ⟨h1, h⟩ := h
    have hsub := sub_enumerate
    have q1 : ∀ {A' : Around} {E : Value → Shared → Prop} {Q : Value → Shared → Prop}, Q (.ref hp.objs.size) ⟨hp.push o, g, d, tk, os⟩ → wpAny (model prog w) A' (pyIter v) Q E ⟨hp, g, d, tk, os⟩ :=
      fun q => B.iter prog w _ _ ⟨hp, g, d, tk, os⟩ _ h1 q
    wp_walk using q1
    refine wpAny_stack_any fun st => wpAny_pure ?_
    split
    · rename_i c _ _ _ _ _
      cases (c == Value.type "enumerate")
      · wp_walk using q1
        exact ⟨_, rfl, h⟩
      · wp_walk using q1
        exact ⟨_, rfl, h⟩
    · wp_walk using q1
      exact ⟨_, rfl, h⟩
section
variable {prog : Program} {w : World} {A : Around} {E : Value → Shared → Prop} {s : Shared}
theorem enum_begins1 {v : Value} {o : Obj} {Hs : Heap → Prop} {Q : Value → Shared → Prop} (B : Begins v o Hs) (h1 : Hs s.heap)
    (h : ∀ h', IsEnum h' (s.heap.objs.size + 1) s.heap.objs.size 0 .none → h'.get? s.heap.objs.size = some o → h'.objs.size = s.heap.objs.size + 2 →
      (∀ b o, s.heap.get? b = some o → h'.get? b = some o) → Q (.ref (s.heap.objs.size + 1)) { s with heap := h' }) :
    wpAny (model prog w) A (call (.type "enumerate") [v]) Q E s := by
  refine callType_new PySem.F.called_enumerate (by decide) (PySem.F.typeCall_enumerate_1 _) (PySem.F.newCall_enumerate_1 _) (fun obj => PySem.F.args_object_init_2 obj _) PySem.F.entry_enumerate_new
    (meets_enumerate_new1 B) ⟨h1, ?_⟩
  have hz : (s.heap.push o).objs.size = s.heap.objs.size + 1 := Heap.size_push ..
  show _ ∧ _
  rw [hz]
  have he : IsEnum ((s.heap.push o).push { cls := .type "enumerate", data := .fields #[.none, .bool false, .ref s.heap.objs.size, rawInt 0, .none, .none] }) (s.heap.objs.size + 1) s.heap.objs.size 0 .none := by
    have := Heap.get?_push_size (s.heap.push o) (o := { cls := .type "enumerate", data := .fields #[.none, .bool false, .ref s.heap.objs.size, rawInt 0, .none, .none] }) rfl
    rw [hz] at this; exact this
  refine ⟨⟨_, he, rfl⟩, h _ he (Heap.get?_push_of_some _ (Heap.get?_push_size _ B.free)) (by rw [Heap.size_push, hz]) fun b o x => Heap.get?_push_of_some _ (Heap.get?_push_of_some _ x)⟩
end
def IteT (K : PySem.W.Frag) (a : Addr) : It :=
  ⟨fun i H => ∃ (xs : List V) (x : V), SqT K H a xs ∧ xs[i]? = some x, fun i H v H' => ∃ T x, v = .ref T ∧ H T = none ∧ H' = upd H T (.tup [.int (i : Nat), x]) ∧ ∀ xs, SqT K H a xs → xs[i]? = some x, fun i H => ∃ xs : List V, SqT K H a xs ∧ xs.length ≤ i⟩
theorem turn_enumT {P : Program} {w : World} {K : PySem.W.Frag} {elts : List Expr} {kk : Nat} {tpos : Pos} (a e it : Addr) (hai : a ≠ it) (hae : a ≠ e) :
    Turn P w K (.Tuple elts kk tpos) (IteT K a) [e, it] e (fun i h => (∃ old, IsEnum h e it ((i : Nat) : Int) old) ∧ h.IsTupleIter it a i ∧ e ≠ it) where
  mem := by simp
  obj := fun i h st b hb => by
    obtain ⟨⟨old, he⟩, ⟨o, ho, hc, hd⟩, _⟩ := st
    have e' : b = e ∨ b = it := by simpa using hb
    rcases e' with z | z
    · rw [z]; exact ⟨_, he, fun v q => nomatch q⟩
    · rw [z]; exact ⟨o, ho, fun v q => by rw [hd] at q; cases q⟩
  keep := fun i h h' st k => let ⟨⟨old, he⟩, hi, hne⟩ := st; ⟨⟨old, k e (by simp) _ he⟩, hi.at fun o q => k it (by simp) o q, hne⟩
  item := by
    intro X hP hw hK hc i pins s σ H E I hf st hg
    subst hP hw hK
    obtain ⟨⟨old, he⟩, hit, hne⟩ := st
    obtain ⟨xs, x, hq, hx⟩ := hg
    obtain ⟨its, rv, p, hz⟩ := I.tuple hq
    obtain ⟨u, hu, ru⟩ := rv.get hx
    have hel : e < s.heap.objs.size := Heap.lt_size he
    have hil : it < s.heap.objs.size := by obtain ⟨_, q, _⟩ := hit; exact Heap.lt_size q
    have hlt : i < its.toArray.size := by
      have := (List.getElem?_eq_some_iff.mp hu).1
      simpa using this
    refine wpAny_pyNext_enum_itemC (Draws.tuple (A := X.A.in1) (I.ok.hd hc) it a hai its.toArray) he ⟨hit, (show s.heap.IsTuple a its.toArray from p)⟩ hlt hne (by simp [hne, Ne.symm hae]) fun u' h' tk hP ho hst' hT hsz hk => ?_
    obtain ⟨hit', _⟩ := hst'
    have eu : u' = u := by
      have h1 : its.toArray[i]? = some u := by simpa using hu
      rw [h1] at hP
      exact (Option.some.inj hP).symm
    subst eu
    refine ⟨_, rfl, wpAny_letOwnedTupleGo_enum (s := { s with heap := h', toks := tk + 1 }) ho fun h'' he' sb => ?_⟩
    have hT2 : h''.get? s.heap.objs.size = some { cls := .type "tuple", data := .seq #[.int i tk, u'] } := (sb.2 _ (Nat.ne_of_gt hel)).trans hT
    have new : ObjOk X.prog X.w (upd H s.heap.objs.size (.tup [.int (i : Nat), x])) h'' s.heap.objs.size (.tup [.int (i : Nat), x]) :=
      ⟨by show 2 ≤ sizeLine; decide, [.int i tk, u'], .cons ⟨_, rfl⟩ (.cons ru .nil), ⟨_, hT2, rfl, _, rfl⟩⟩
    have I1 : Inv X pins σ (upd H s.heap.objs.size (.tup [.int (i : Nat), x])) { s with heap := h'', toks := tk + 1 } :=
      I.turnedNew (ch := [e, it]) (fun b ob hb q => (sb.2 b (fun z => hb (by simp [z]))).trans (hk b ob (fun z => hb (by simp [z])) (fun z => hb (by simp [z])) q)) hf (Nat.le_refl _) new
    refine ⟨.ref s.heap.objs.size, _, I1, rfl, ⟨_, x, rfl, I.hok.fresh (Nat.le_refl _), rfl, fun ys hy => by rw [I.tuple_inj hy hq]; exact hx⟩, ⟨⟨u', ?_⟩, hit'.at fun o q => (sb.2 it (Ne.symm hne)).trans q, hne⟩, fun b hb => ?_⟩
    · have e1 : ((i + 1 : Nat) : Int) = (i : Int) + 1 := by omega
      rw [e1]; exact he'
    · have hb' : b < s.heap.objs.size := by
        have e' : b = e ∨ b = it := by simpa using hb
        rcases e' with z | z
        · rw [z]; exact hel
        · rw [z]; exact hil
      rw [upd_ne (Nat.ne_of_lt hb')]
      exact (hf b hb).1
  done := by
    intro X hP hw hK hc i pins s σ H E I hf st hg
    subst hP hw hK
    obtain ⟨⟨old, he⟩, hit, hne⟩ := st
    obtain ⟨xs, hq, hx⟩ := hg
    obtain ⟨its, rv, p, hz⟩ := I.tuple hq
    obtain ⟨f0, f1, f2, f3, f4, f5⟩ := hf it (by simp)
    have hl := rv.length
    refine wpAny_pyNext_enum_endD (n := i) (P := fun _ _ => False) (St := fun j h => j = i ∧ h.IsTupleIter it a i ∧ h.IsTuple a its.toArray) (fp := [it, a]) ?_ he ⟨rfl, hit, (show s.heap.IsTuple a its.toArray from p)⟩ fun h' eb => ⟨rfl, I.turned (t' := s.toks) (fun b o hb q => eb b o hb q) f0 f1 f3 f4 f5⟩
    have hh : X.A.in1.handled = none := I.ok.hd hc
    exact ⟨fun _ _ st => let ⟨o, ho, _⟩ := st.2.1; ⟨o, ho⟩, fun _ _ _ st hk => ⟨st.1, st.2.1.at fun o e => hk it (by simp) o e, st.2.2.at fun o e => hk a (by simp) o e⟩, fun j s Q E hj st hQ => by have := st.1; omega,
      fun s Q E st hE => wpAny_nextOf_tuple_end hh st.2.1 st.2.2 (by simp; omega) hE⟩
  self := fun A i s Q E st h => let ⟨⟨_, he⟩, _⟩ := st; wpAny_pyIter_enum he h
def iEnumT (K : PySem.W.Frag) (ta : TA) : TI := fun σ H R => ta σ H fun vs H1 => ∃ a xs, vs = [.ref a] ∧ ((SqT K H1 a xs ∧ R (IteT K a) H1) ∨ (SqL K H1 a xs ∧ R (Ite K a) H1))
theorem pi_enumT {X : Cx} {e : Expr} {ta : TA} {p pos tpos : Pos} {elts : List Expr} {kk : Nat} (hg : Gl X "enumerate") (hm : X.mg "enumerate" = none) (ha : PA X [e] ta) (hs : starEach [e] X.env = [(false, eval e X.env)] := by rfl) :
    PI X (.Tuple elts kk tpos) (.Call (.Name "enumerate" p) [e] [] pos) (iEnumT X.K ta) := by
  refine ⟨fun pins s σ H R I h => ?_⟩
  refine Call_ (ld_blt I hg hm boot_enumerate (PyProof.Rows.callWith_type1 (thn (ha.run pos pins s σ H _ I h) fun us s1 ⟨vs, H1, I1, r1, q1⟩ => ?_) hs rfl))
  obtain ⟨a, xs, ex, hq⟩ := q1
  subst ex
  cases r1 with
  | cons r rr =>
    cases rr
    cases r
    have fpo : ∀ b, b ∈ [s1.heap.objs.size + 1, s1.heap.objs.size] → s1.heap.objs.size ≤ b := fun b hb => by
      have e' : b = s1.heap.objs.size + 1 ∨ b = s1.heap.objs.size := by simpa using hb
      rcases e' with z | z
      · rw [z]; exact Nat.le_add_right _ _
      · rw [z]; exact Nat.le_refl _
    rcases hq with ⟨hq, q⟩ | ⟨hq, q⟩
    · obtain ⟨its, rv, p', hz⟩ := I1.tuple hq
      have hlt : a < s1.heap.objs.size := by obtain ⟨o, ho, _⟩ := p'; exact Heap.lt_size ho
      refine enum_begins1 (begins_tuple a its.toArray) (show s1.heap.IsTuple a its.toArray from p') fun h' he hit hsz hk => wpAny_pyIter_enum he ?_
      have I2 : Inv X pins σ H1 { s1 with heap := h' } := I1.kept (t' := s1.toks) hk
      refine ⟨s1.heap.objs.size + 1, [s1.heap.objs.size + 1, s1.heap.objs.size], _, _, H1, rfl, I2, turn_enumT a (s1.heap.objs.size + 1) s1.heap.objs.size (Nat.ne_of_lt hlt) (Nat.ne_of_lt (Nat.lt_succ_of_lt hlt)), ⟨⟨.none, he⟩, ⟨_, hit, rfl, rfl⟩, Nat.succ_ne_self _⟩, fun b hb => ?_, q⟩
      exact I1.fpOk (fpo b hb) (I1.hok.fresh (fpo b hb))
    · obtain ⟨its, rv, p', hz⟩ := I1.list hq
      refine call_enumerate_list p'.isList fun h' he hit hsz hk => wpAny_pyIter_enum he ?_
      have I2 : Inv X pins σ H1 { s1 with heap := h' } := I1.kept (t' := s1.toks) hk
      refine ⟨s1.heap.objs.size + 1, [s1.heap.objs.size + 1, s1.heap.objs.size], _, _, H1, rfl, I2, turn_enum a (s1.heap.objs.size + 1) s1.heap.objs.size, ⟨⟨.none, he⟩, hit, Nat.succ_ne_self _⟩, fun b hb => ?_, q⟩
      exact I1.fpOk (fpo b hb) (I1.hok.fresh (fpo b hb))
theorem walk_enumT {K : PySem.W.Frag} {a : Addr} {xs : List V} : Walk (IteT K a) xs.length (fun H => SqT K H a xs) (YPair (fun i => some (.int (i : Nat))) (fun i => xs[i]?)) := by
  refine ⟨fun i _ hi q => ⟨xs, xs[i], q, by simp [hi]⟩, fun _ q => ⟨xs, q, Nat.le_refl _⟩, fun i H v H' _ q y => ?_⟩
  obtain ⟨T, x, h1, h2, h3, h4⟩ := y
  exact ⟨T, .int (i : Nat), x, h1, h2, h3, rfl, h4 xs q⟩
def enu2F : List D → Option (List D)
  | [.lst ds] => some (ds.zipIdx.map fun p => .tup [.int (p.2 : Nat), p.1])
  | [.tup ds] => some (ds.zipIdx.map fun p => .tup [.int (p.2 : Nat), p.1])
  | _ => none
def enu2P (tr : ADen) : IDen := fun Δ st => bd (tr Δ st) fun ds st1 => (enu2F ds).map fun r => (.ok r, st1)
section
variable {X : Cx} {E : XK} {a : Expr} {pos p tpos : Pos} {kk : Nat}
theorem di_enum2 {elts : List Expr} {tr : ADen} (hm : X.mg "enumerate" = none) (ha : PA X [a] (tAD X.K E tr)) (hg : Gl X "enumerate" := by rfl) (hs : starEach [a] X.env = [(false, eval a X.env)] := by rfl) :
    PI X (.Tuple elts kk tpos) (.Call (.Name "enumerate" p) [a] [] pos) (tI X.K E (enu2P tr)) := by
  refine ⟨fun pins s σ H R I h => (pi_enumT hg hm ha hs).run pins s σ H R I ?_⟩
  obtain ⟨W, st, h⟩ := h
  refine ⟨W, st, h.seq.mono fun ds st1 W1 H1 e1 i1 q vs rs => ?_⟩
  obtain ⟨Δ, r, L, iv, e, k⟩ := q.2.val (m := fun _ => enu2F ds)
  unfold enu2F at e
  split at e
  · rename_i xs
    cases e
    obtain ⟨v, rfl, rv⟩ := rps1 rs
    cases rv with
    | @lst c vx _ n1 s1 q1 =>
      refine ⟨c, vx, rfl, .inr ⟨sq_l s1, k W1 H1 (Le.refl _ _) iv _ ⟨fun H => SqL X.K H c vx, YPair (fun i => some (.int (i : Nat))) (fun i => vx[i]?), ?_, fun W2 H e2 => sq_l (e2.ext _ _ n1 s1), fun i W2 H st2 x H' d e2 i2 hd y => ?_⟩⟩⟩
      · have l : (xs.zipIdx.map fun p => D.tup [.int (p.2 : Nat), p.1]).length = vx.length := by rw [List.length_map, List.length_zipIdx, q1.length]
        rw [l]
        exact walk_enum
      · obtain ⟨T, x1, x2, rfl, nT, rfl, f1, f2⟩ := y
        obtain ⟨d2, g2, rfl⟩ := zipIdx_get hd
        obtain ⟨w2, m2, r2⟩ := q1.get g2
        rw [show vx[i]? = some x2 from f2] at m2
        cases m2
        cases (show some (V.int (i : Nat)) = some x1 from f1)
        exact ⟨same_new nT, rp_tup i2 nT (.cons (.int _) (.cons (r2.tow e2) .nil))⟩
  · rename_i xs
    cases e
    obtain ⟨v, rfl, rv⟩ := rps1 rs
    cases rv with
    | @tup c vx _ s1 q1 =>
      have up : ∀ {W2 : Wd} {H : Hp}, Lw W1 H1 W2 H → SqT X.K H c vx := fun {W2 H} e2 => by
        rcases s1 with ⟨n, s⟩ | s
        · rcases s with s | ⟨o, s⟩
          · exact .inl (.inl (e2.ext _ _ n s))
          · exact .inl (.inr ⟨o, e2.ext _ _ n s⟩)
        · exact .inr s
      refine ⟨c, vx, rfl, .inl ⟨sq_t s1, k W1 H1 (Le.refl _ _) iv _ ⟨fun H => SqT X.K H c vx, YPair (fun i => some (.int (i : Nat))) (fun i => vx[i]?), ?_, fun W2 H e2 => up e2, fun i W2 H st2 x H' d e2 i2 hd y => ?_⟩⟩⟩
      · have l : (xs.zipIdx.map fun p => D.tup [.int (p.2 : Nat), p.1]).length = vx.length := by rw [List.length_map, List.length_zipIdx, q1.length]
        rw [l]
        exact walk_enumT
      · obtain ⟨T, x1, x2, rfl, nT, rfl, f1, f2⟩ := y
        obtain ⟨d2, g2, rfl⟩ := zipIdx_get hd
        obtain ⟨w2, m2, r2⟩ := q1.get g2
        rw [show vx[i]? = some x2 from f2] at m2
        cases m2
        cases (show some (V.int (i : Nat)) = some x1 from f1)
        exact ⟨same_new nT, rp_tup i2 nT (.cons (.int _) (.cons (r2.tow e2) .nil))⟩
  · cases e
end
/-! ### def f(a, .., *v); methods by positional values -/
def starF (n : Nat) (F : FDen) : FDen := fun ds st => if n ≤ ds.length ∧ ds.length ≤ big then F (ds.take n ++ [.tup (ds.drop n)]) st else none
section
variable {P : Program} {w : World} {K : PySem.W.Frag} {mg : Str → Option Value} {base : Heap}
theorem fn_denS {x qual pv : Str} {st : Stmt} {f : Addr} {fd : FuncData} {N ps : List Str} {k : Nat} {F : FDen} (τ : SDen) (G : Fun K x qual st f fd) (S : FnScope N (ps ++ [pv]) (defScope st))
    (hb : ∀ (kV doc pm : Value) (an : Option Addr) (cdv ct : Value) (us rest : List Value), us.length = ps.length → bindArgs (PySem.W.fnOf x qual (defArgs st) (defBody st) (defScope st) .none kV doc pm an cdv ct) ⟨us ++ rest, []⟩ = (newTuple rest >>= fun t => pure (ps.zip us ++ [(pv, t)])))
    (hden : ∀ ds st p, F ds st = some p → runD τ N.length ds st = some p)
    (hbody : ∀ (cdv : Value) (A : Around) (outer : List Env) (s : Shared) (H : Hp) (E : XK), Room k (A.deeper (envOfC qual (defScope st) s.heap.objs.size f cdv)) →
      Passes (L2.CX P w) (cxOf (L2.CX P w) P w K mg base N qual (defScope st) f cdv A outer s H E) E →
      PassesOwn (model P w) (A.deeper (envOfC qual (defScope st) s.heap.objs.size f cdv)) (envOfC qual (defScope st) s.heap.objs.size f cdv) (cxOf (L2.CX P w) P w K mg base N qual (defScope st) f cdv A outer s H E).xe →
      PSs (cxOf (L2.CX P w) P w K mg base N qual (defScope st) f cdv A outer s H E) (defBody st) (tSD K E τ)) : FnR P w K mg base (L2.CX P w) (k + 1) f (spF K (starF ps.length F)) := by
  obtain ⟨oc, od, kV, doc, pm, an, cdv, ct, osl, rfl, lk, hcd⟩ := G.ex
  refine (StX.fn_star (sp := fun vs H Q E => spF K F vs H Q E) lk hcd S StX.cxUp (hb kV doc pm an cdv ct) (fun A outer s H vs Q E hr h => ?_)).imp fun vs H Q E h => ?_
  · obtain ⟨W, ds, st0, r, st', rs, iv, e, wn⟩ := h
    have hp : Passes (L2.CX P w) (cxOf (L2.CX P w) P w K mg base N qual (defScope st) f cdv A outer s H E) E := passes_call (takes_of rfl rfl rfl rfl) fun _ _ _ _ e => e
    refine ⟨tSD K E τ, hbody cdv A outer s H E hr hp (passes_of rfl), ?_⟩
    have q := hden ds st0 _ e
    unfold runD at q
    cases hm : τ (ds.map some ++ List.replicate (N.length - ds.length) none) st0 with
    | none => rw [hm] at q; cases q
    | some p =>
      obtain ⟨ro, st1⟩ := p
      rw [hm] at q
      simp only [Option.bind] at q
      refine ⟨W, st0, _, ro, st1, start_loc rs N, iv, hm, ?_⟩
      cases ro with
      | error z =>
        simp only [outR, Option.map] at q
        cases q
        exact wn
      | ok o =>
        cases o with
        | rt d => simp only [outR, Option.map] at q; cases q; exact wn
        | nx Δ => simp only [outR, Option.map] at q; cases q; exact fun W' H' e i σ' _ => wn W' H' e i .non .non
        | bk Δ => simp only [outR, Option.map] at q; cases q
        | ct Δ => simp only [outR, Option.map] at q; cases q
  · obtain ⟨W, ds, st0, r, st', rs, iv, e, wn⟩ := h
    unfold starF at e
    split at e
    · rename_i hc
      have hl := rs.length
      refine ⟨vs.take ps.length, vs.drop ps.length, (List.take_append_drop _ _).symm, by rw [List.length_take, hl]; omega, by rw [List.length_drop, hl]; exact Nat.le_trans (Nat.sub_le _ _) (big_line hc.2), fun p np => ?_⟩
      exact ⟨W, _, st0, r, st', ((rs.take _).to (Le.of (same_new np))).append (.cons (rp_tup iv np (rs.drop _)) .nil), iv.same (same_new np), e, wn.to (Le.of (same_new np))⟩
    · cases e
end
section
variable {X : Cx} {E : XK} {k : Nat} {f C : Addr} {fd : FuncData} {ps : List Str} {F : FDen} {m : Str} {pos apos : Pos} {a o : Expr} {es : List Expr} {te : EDen} {tr : ADen} {pl : Sem Bool} {sp : Sp} {ta : TE} {t : TA}
def tMethR (C : Addr) (m : Str) (sp : Sp) (E : XK) (ta : TE) (t : TA) : TE := fun σ H Q => ta σ H fun x H1 => ∃ a dx fs, x = .ref a ∧ H1 a = some (.ins C dx fs) ∧ fs.lookup m = none ∧ t σ H1 fun vs H2 => sp (.ref a :: vs) H2 Q E
theorem pe_methR (he : PE X o ta) (c : Cls X.K C) (hm : Meth X.K C m f) (G : FnR X.prog X.w X.K X.mg X.base (L2.CX X.prog X.w) k f sp) (hr : Room k X.A) (hx : Passes (L2.CX X.prog X.w) X E) (ha : PA X (a :: es) t)
    (hst : starEach (a :: es) X.env = (false, eval a X.env) :: starEach es X.env := by rfl) (hpl : (backTo pos (starEach es X.env)).any (·.1) = false := by rfl)
    (ht : eval (.Call (.Attribute o m apos) (a :: es) [] pos) X.env = (do
      let ov ← eval o X.env
      standAt apos.atName
      let (f, first) ← holding [ov] (getMethod ov m pl)
      callWith pos f first (backTo pos (starEach (a :: es) X.env)) (backToKw pos (keywordEach [] X.env))) := by rfl) :
    PE X (.Call (.Attribute o m apos) (a :: es) [] pos) (tMethR C m sp E ta t) := by
  refine ⟨fun pins s σ H Q I h => ?_⟩
  refine PySem.W.methodCall_KW (pl := pl) (thn (he.run pins s σ H _ I h) fun u s1 ⟨x, H1, I1, rx, a, dx, fs, ex, ea, l, q⟩ => ?_) ht
  subst ex
  obtain rfl : u = Value.ref a := rx
  refine getmeth_ok I1 ea c hm l ?_
  refine PySem.W.callWith_K (first := [.ref a]) (h₀ := X.base) I.ok.mod.kin hm.kp (thn (ha.run pos pins s1 σ H1 _ I1 q) fun us s2 ⟨vs, H2, I2, r, q2⟩ => ⟨I2.kIn, ?_⟩) hst hpl
  exact wpAny_call (run_fnR (us := .ref a :: us) (vs := .ref a :: vs) G hr hx I2 (.cons rfl r) q2)
theorem pe_methR0 (he : PE X o ta) (c : Cls X.K C) (hm : Meth X.K C m f) (G : FnR X.prog X.w X.K X.mg X.base (L2.CX X.prog X.w) k f sp) (hr : Room k X.A) (hx : Passes (L2.CX X.prog X.w) X E)
    (ht : eval (.Call (.Attribute o m apos) [] [] pos) X.env = (do
      let ov ← eval o X.env
      standAt apos.atName
      let (f, first) ← holding [ov] (getMethod ov m pl)
      callWith pos f first (backTo pos (starEach [] X.env)) (backToKw pos (keywordEach [] X.env))) := by rfl) :
    PE X (.Call (.Attribute o m apos) [] [] pos) (tMethR C m sp E ta tNil) := by
  refine ⟨fun pins s σ H Q I h => ?_⟩
  refine PySem.W.methodCall_KW (pl := pl) (thn (he.run pins s σ H _ I h) fun u s1 ⟨x, H1, I1, rx, a, dx, fs, ex, ea, l, q⟩ => ?_) ht
  subst ex
  obtain rfl : u = Value.ref a := rx
  refine getmeth_ok I1 ea c hm l ?_
  exact PySem.W.callWith_K0 (first := [.ref a]) I1.kIn hm.kp (wpAny_call (run_fnR (us := [.ref a]) (vs := [.ref a]) G hr hx I1 (.cons rfl .nil) q))
theorem de_methR (c : Cls X.K C) (hm : Meth X.K C m f) (G : FnR X.prog X.w X.K X.mg X.base (L2.CX X.prog X.w) k f (spF X.K F)) (hr : Room k X.A) (hx : Passes (L2.CX X.prog X.w) X E)
    (he : PE X o (tD X.K E te)) (ha : PA X (a :: es) (tAD X.K E tr)) (hst : starEach (a :: es) X.env = (false, eval a X.env) :: starEach es X.env := by rfl) (hpl : (backTo pos (starEach es X.env)).any (·.1) = false := by rfl)
    (ht : eval (.Call (.Attribute o m apos) (a :: es) [] pos) X.env = (do
      let ov ← eval o X.env
      standAt apos.atName
      let (f, first) ← holding [ov] (getMethod ov m pl)
      callWith pos f first (backTo pos (starEach (a :: es) X.env)) (backToKw pos (keywordEach [] X.env))) := by rfl) :
    PE X (.Call (.Attribute o m apos) (a :: es) [] pos) (tD X.K E (methP C m F te tr)) := by
  refine imE (pe_methR he c hm G hr hx ha hst hpl ht) fun σ H Q h => ?_
  obtain ⟨W, st0, h⟩ := h
  refine ⟨W, st0, h.seq.mono fun d st1 W1 H1 e1 i1 q v rv => ?_⟩
  obtain ⟨Δ0, r0, s0, L0, I0, eq, w0⟩ := q.2
  simp only at eq
  split at eq
  · rename_i ns ds hi
    split at eq
    · cases eq
    · rename_i hn
      obtain ⟨a, dx, fs, rfl, h1, h2, h3⟩ := ins_of I0 rv hi
      refine ⟨a, dx, fs, rfl, h1, lk_none h2 hn, ?_⟩
      have h4 : tGw X.K W1 st1 E (fun Δ st => bd (tr Δ st) fun ds st2 => F (d :: ds) st2) σ H1 (fun r _ W' H' => ∀ v, Rp X.K W' H' v r → Q v H') := ⟨Δ0, r0, s0, L0, I0, eq, w0⟩
      refine ⟨W1, st1, (h4.seq (k := fun ds _ st2 => F (d :: ds) st2)).mono fun ds st2 W2 H2 e2 i2 q2 vs rs => ?_⟩
      obtain ⟨Δ, r, st', L, I, e, w⟩ := q2.2
      exact ⟨W2, d :: ds, st2, r, st', .cons (rv.to e2) rs, I, e, w⟩
  · cases eq
theorem de_methR0 (c : Cls X.K C) (hm : Meth X.K C m f) (G : FnR X.prog X.w X.K X.mg X.base (L2.CX X.prog X.w) k f (spF X.K F)) (hr : Room k X.A) (hx : Passes (L2.CX X.prog X.w) X E)
    (he : PE X o (tD X.K E te))
    (ht : eval (.Call (.Attribute o m apos) [] [] pos) X.env = (do
      let ov ← eval o X.env
      standAt apos.atName
      let (f, first) ← holding [ov] (getMethod ov m pl)
      callWith pos f first (backTo pos (starEach [] X.env)) (backToKw pos (keywordEach [] X.env))) := by rfl) :
    PE X (.Call (.Attribute o m apos) [] [] pos) (tD X.K E (methP C m F te nilP)) := by
  refine imE (pe_methR0 he c hm G hr hx ht) fun σ H Q h => ?_
  obtain ⟨W, st0, h⟩ := h
  refine ⟨W, st0, h.seq.mono fun d st1 W1 H1 e1 i1 q v rv => ?_⟩
  obtain ⟨Δ0, r0, s0, L0, I0, eq, w0⟩ := q.2
  simp only at eq
  split at eq
  · rename_i ns ds hi
    split at eq
    · cases eq
    · rename_i hn
      obtain ⟨a, dx, fs, rfl, h1, h2, h3⟩ := ins_of I0 rv hi
      exact ⟨a, dx, fs, rfl, h1, lk_none h2 hn, W1, [d], st1, r0, s0, .cons rv .nil, I0, eq, w0⟩
  · cases eq
/-- o.m(e, ..), no defaults: by the values alone -/
theorem fn_plain {fd : FuncData} {ps : List Str} {P : Program} {w : World} {K : PySem.W.Frag} {mg : Str → Option Value} {base : Heap} {CX : CXT} {sp : Sp} (G : FnOk P w K mg base CX k f fd ps sp) (hb : Binds K fd ps []) : FnR P w K mg base CX k f sp :=
  (G.raw hb .nil).imp fun vs H Q E h => by rw [List.append_nil]; exact h
end
end Dn

set_option Elab.async false
set_option linter.all false
set_option maxRecDepth 100000
set_option maxHeartbeats 4000000
namespace Dn
open PySem PySem.Spec PyProof.Rows L2
/-! ### comparisons of own objects as tests -/
section
variable {X : Cx} {E : XK} {k : Nat} {f C : Addr} {fd : FuncData} {ps : List Str} {F : FDen} {a b : Expr} {ta tb : EDen} {pos : Pos} {σ : L2.St} {H : Hp} {Q : VK}
theorem tD_ownEq (h : tD X.K E (ownEqP C F ta tb) σ H Q) : tOp (rOwnEq C (spF X.K F) E) (tD X.K E ta) (tD X.K E tb) σ H Q := by
  obtain ⟨W, st0, h⟩ := h
  refine ⟨W, st0, h.seq.mono fun x st1 W1 H1 e1 i1 q v rv => ⟨W1, st1, q.2.seq.mono fun y st2 W2 H2 e2 i2 q2 u ru => ?_⟩⟩
  obtain ⟨Δ0, r0, s0, L0, I0, eq, w0⟩ := q2.2
  simp only at eq
  split at eq
  · rename_i p p' hi hi'
    obtain ⟨ns, ds⟩ := p
    obtain ⟨ns', ds'⟩ := p'
    obtain ⟨a, dx, fs, rfl, h1, _, _⟩ := ins_of I0 (rv.to e2) hi
    obtain ⟨b, dy, gs, rfl, h1', _, _⟩ := ins_of I0 ru hi'
    have h4 : tGw X.K W2 st2 E (fun (_ : Dl) st => bd (F [x, y] st) fun r st3 => (negB false r).map fun d => ((.ok d : Except Exc D), st3)) σ H2 (fun r _ W' H' => ∀ v, Rp X.K W' H' v r → Q v H') := ⟨Δ0, r0, s0, L0, I0, eq, w0⟩
    obtain ⟨Δ, r, st', L, I, e, w⟩ := h4.seq (τ := fun _ st => F [x, y] st) (k := fun r _ st3 => (negB false r).map fun d => ((.ok d : Except Exc D), st3))
    refine ⟨a, b, dx, dy, fs, gs, rfl, rfl, h1, h1', W2, [x, y], st2, r, st', .cons (rv.to e2) (.cons ru .nil), I, e, ?_⟩
    cases r with
    | error z => exact w
    | ok d =>
      intro W' H' le i' v' rv'
      obtain ⟨_, hn⟩ := w W' H' le i'
      obtain ⟨Δ, c, L, I, hb, kk⟩ := hn.val (m := fun _ => negB false d)
      unfold negB at hb
      cases rv' <;> simp only [blOf] at hb <;> cases hb
      exact ⟨_, rfl, kk W' H' (Le.refl _ _) I _ (.bl _)⟩
  · cases eq
theorem tD_ownNe (h : tD X.K E (ownNeP C F ta tb) σ H Q) : tOp (rOwnNe C (spF X.K F) E) (tD X.K E ta) (tD X.K E tb) σ H Q := by
  obtain ⟨W, st0, h⟩ := h
  refine ⟨W, st0, h.seq.mono fun x st1 W1 H1 e1 i1 q v rv => ⟨W1, st1, q.2.seq.mono fun y st2 W2 H2 e2 i2 q2 u ru => ?_⟩⟩
  obtain ⟨Δ0, r0, s0, L0, I0, eq, w0⟩ := q2.2
  simp only at eq
  split at eq
  · rename_i p p' hi hi'
    obtain ⟨ns, ds⟩ := p
    obtain ⟨ns', ds'⟩ := p'
    obtain ⟨a, dx, fs, rfl, h1, _, _⟩ := ins_of I0 (rv.to e2) hi
    obtain ⟨b, dy, gs, rfl, h1', _, _⟩ := ins_of I0 ru hi'
    have h4 : tGw X.K W2 st2 E (fun (_ : Dl) st => bd (F [x, y] st) fun r st3 => (negB true r).map fun d => ((.ok d : Except Exc D), st3)) σ H2 (fun r _ W' H' => ∀ v, Rp X.K W' H' v r → Q v H') := ⟨Δ0, r0, s0, L0, I0, eq, w0⟩
    obtain ⟨Δ, r, st', L, I, e, w⟩ := h4.seq (τ := fun _ st => F [x, y] st) (k := fun r _ st3 => (negB true r).map fun d => ((.ok d : Except Exc D), st3))
    refine ⟨a, b, dx, dy, fs, gs, rfl, rfl, h1, h1', W2, [x, y], st2, r, st', .cons (rv.to e2) (.cons ru .nil), I, e, ?_⟩
    cases r with
    | error z => exact w
    | ok d =>
      intro W' H' le i' v' rv'
      obtain ⟨_, hn⟩ := w W' H' le i'
      obtain ⟨Δ, c, L, I, hb, kk⟩ := hn.val (m := fun _ => negB true d)
      unfold negB at hb
      cases rv' <;> simp only [blOf] at hb <;> cases hb
      exact ⟨_, rfl, kk W' H' (Le.refl _ _) I _ (.bl _)⟩
  · cases eq
theorem dt_eqOwn (dn : Dun X.K C "__eq__" f) (G : FnOk X.prog X.w X.K X.mg X.base (L2.CX X.prog X.w) k f fd ps (spF X.K F)) (hr : Room k X.A) (hb : Binds X.K fd ps []) (hx : Passes (L2.CX X.prog X.w) X E) (ha : PE X a (tD X.K E ta)) (hc : PE X b (tD X.K E tb)) (hm : behindInMarks .Eq b = false := by exact nomark _) :
    PT X (.Compare a [.Eq] [b] pos) (tTD X.K E (tstP (ownEqP C F ta tb))) := imT (pt_cmpR (eq_own dn G hr hb hx) ha hc hm) fun _ _ _ h => tD_ownEq (tTD_tst h)
theorem dt_neOwn (n : NeC X.K C) (dn : Dun X.K C "__eq__" f) (G : FnOk X.prog X.w X.K X.mg X.base (L2.CX X.prog X.w) k f fd ps (spF X.K F)) (hr : Room (k + 1) X.A) (hb : Binds X.K fd ps []) (hx : Passes (L2.CX X.prog X.w) X E) (ha : PE X a (tD X.K E ta)) (hc : PE X b (tD X.K E tb)) (hm : behindInMarks .NotEq b = false := by exact nomark _) :
    PT X (.Compare a [.NotEq] [b] pos) (tTD X.K E (tstP (ownNeP C F ta tb))) := imT (pt_cmpR (ne_own n dn G hr hb hx) ha hc hm) fun _ _ _ h => tD_ownNe (tTD_tst h)
theorem dt_inOwn (dn : Dun X.K C "__contains__" f) (G : FnOk X.prog X.w X.K X.mg X.base (L2.CX X.prog X.w) k f fd ps (spF X.K F)) (hr : Room k X.A) (hb : Binds X.K fd ps []) (hx : Passes (L2.CX X.prog X.w) X E) (ha : PE X a (tD X.K E ta)) (hc : PE X b (tD X.K E tb)) (hm : behindInMarks .In b = false := by rfl) :
    PT X (.Compare a [.In] [b] pos) (tTD X.K E (tstP (ownP2 C F false ta tb))) := imT (pt_cmpR (in_own dn G hr hb hx) ha hc hm) fun _ _ _ h => tD_own2 (tTD_tst h)
theorem dt_notInOwn (dn : Dun X.K C "__contains__" f) (G : FnOk X.prog X.w X.K X.mg X.base (L2.CX X.prog X.w) k f fd ps (spF X.K F)) (hr : Room k X.A) (hb : Binds X.K fd ps []) (hx : Passes (L2.CX X.prog X.w) X E) (ha : PE X a (tD X.K E ta)) (hc : PE X b (tD X.K E tb)) (hm : behindInMarks .NotIn b = false := by rfl) :
    PT X (.Compare a [.NotIn] [b] pos) (tTD X.K E (tstP (ownP2 C F true ta tb))) := imT (pt_cmpR (notIn_own dn G hr hb hx) ha hc hm) fun _ _ _ h => tD_own2 (tTD_tst h)
end
/-! ### keywords behind positional values, the keyword-only parameters all given -/
theorem kbn_mkD {K : PySem.W.Frag} {x qual : Str} {params : Arguments} {body : List Stmt} {scope : Scope} {kws : List (Str × V)} {f : Addr} {fd : FuncData} {ps : List Str} (F : FunD K x qual params body scope [] kws f fd) (n : Nat) (ks : List Str) (is : List Nat)
    (h : ∀ (kV doc pm : Value) (an : Option Addr) (cdv ct : Value) (us ws : List Value), us.length = n → ws.length = ks.length → bindArgs (PySem.W.fnOf x qual params body scope .none kV doc pm an cdv ct) ⟨us, ks.zip ws⟩ = pure (ps.zip (us ++ pick is ws))) :
    KBn K fd ps n ks (fun us ws => us ++ pick is ws) (fun us zs => us ++ pick is zs) := by
  obtain ⟨oc, od, dV, kV, doc, pm, an, cdv, ct, osl, rfl, lk, hcd, hD, hK⟩ := F.ex
  rcases hD with ⟨_, rfl⟩ | ⟨e, _⟩
  · exact ⟨fun s us ws _ hu hw => .of_eq (h kV doc pm an cdv ct us ws hu hw), fun ru rz => vals_app ru rz⟩
  · exact absurd rfl e
/-! ### xs.index(text) -/
def lixP (te ta : EDen) : EDen := fun Δ st => bd (te Δ st) fun x st1 => match x with
  | .lst ds => bd (ta Δ st1) fun d st2 => (placeF d ds).map fun r => (.ok r, st2)
  | _ => none
section
variable {X : Cx} {E : XK} {o a : Expr} {te ta : EDen} {pos apos cpos : Pos}
theorem de_lix (ho : PE X o (tD X.K E te)) (ha : PE X a (tD X.K E ta)) (hbase : attributeBase o "index" X.env (eval o X.env) = eval o X.env := by rfl)
    (hfew : ((backTo cpos (starEach [a] X.env)).all (fun x => !x.1) && (backToKw cpos (keywordEach [] X.env)).all (fun x => x.1.isSome) && decide ([a].length + ([] : List Keyword).length + (if ([] : List Keyword).isEmpty then 0 else 1) < 30)) = true := by rfl)
    (hline : (apos.endLine == cpos.line) = true := by rfl) (hs : starEach [a] X.env = (false, eval a X.env) :: starEach [] X.env := by rfl) (hplain : (backTo cpos (starEach [] X.env)).any (·.1) = false := by rfl) :
    PE X (.Call (.Attribute o "index" apos) [a] [] cpos) (tD X.K E (lixP te ta)) := by
  refine imE (pe_bm PySem.F.plainAttrs_list PySem.F.slot_list_index PySem.F.type_list_index mt_index ho (pa_cons ha pa_nil hs) hbase hfew hline hs hplain) fun σ H Q h => ?_
  obtain ⟨W, st0, h⟩ := h
  refine ⟨W, st0, h.seq.mono fun x st1 W1 H1 e1 i1 q v rv => ?_⟩
  obtain ⟨Δ0, r0, s0, L0, I0, eq, w0⟩ := q.2
  simp only at eq
  split at eq
  · rename_i ds
    cases rv with
    | @lst p xs _ n s1 q1 =>
      refine ⟨.inl ⟨rfl, xs, sq_l s1⟩, ?_⟩
      have h4 : tGw X.K W1 st1 E (fun Δ st => bd (ta Δ st) fun d st2 => (placeF d ds).map fun r => (.ok r, st2)) σ H1 (fun r _ W' H' => ∀ v, Rp X.K W' H' v r → Q v H') := ⟨Δ0, r0, s0, L0, I0, eq, w0⟩
      refine ⟨W1, st1, h4.seq.mono fun d st2 W2 H2 e2 i2 q2 u ru => ?_⟩
      obtain ⟨Δ, r, L, I2, e, k⟩ := q2.2.val (m := fun _ => placeF d ds)
      unfold placeF at e
      split at e
      · rename_i z
        cases es : strsD ds with
        | none => rw [es] at e; cases e
        | some ss =>
          rw [es] at e
          simp only [Option.bind] at e
          split at e
          · rename_i hm
            cases e
            cases ru
            have rs2 := q1.to e2
            rw [strsD_of es] at rs2
            have hx := rs2.strs
            have hi := List.idxOf_lt_length_of_mem hm
            subst hx
            have fl : (ss.map V.str).all flatV = true := by
              rw [List.all_eq_true]
              intro y hy
              obtain ⟨_, _, rfl⟩ := List.mem_map.mp hy
              rfl
            refine ⟨p, ss.map V.str, .str z, ss.idxOf z, .str z, rfl, rfl, sq_l (e2.ext _ _ (fun zz => n (W1.sub _ zz)) s1), rfl, fl, ?_, ?_, fun m z' hlt hc => ?_, k W2 H2 (Le.refl _ _) I2 _ (.int _)⟩
            · rw [List.getElem?_map, List.getElem?_eq_getElem hi, List.getElem_idxOf hi] <;> rfl
            · show (z == z) = true
              simp
            · have hml : m < ss.length := by omega
              rw [List.getElem?_map, List.getElem?_eq_getElem hml] at hc
              cases hc
              show (ss[m] == z) = false
              have := List.not_of_lt_findIdx (p := (· == z)) (xs := ss) hlt
              simpa using this
          · cases e
      · cases e
  · cases eq
end
end Dn

set_option Elab.async false
set_option linter.all false
set_option maxRecDepth 100000
set_option maxHeartbeats 4000000
namespace Dn
open PySem PySem.Spec PyProof.Rows L2
/-! ### sorted(a tuple of texts) -/
section
variable {prog : Program} {w : World} {A : Around} {E : Value → Shared → Prop} {s : Shared}
theorem collect_tup {l : Addr} {vs : List Value} {Q : List Value → Shared → Prop} (hl : IsTup s.heap l vs.toArray)
    (h : Q vs { s with heap := (s.heap.push (seqObj "list" #[] 0)).update s.heap.objs.size (Obj.mapSeq (· ++ vs.toArray)) }) (hsz : vs.length ≤ sizeLine) :
    wpAny (model prog w) A (PySem.collect (.ref l)) Q E s := by
  obtain ⟨o, ho, hc, n, hd⟩ := id hl
  unfold PySem.collect
  refine wpAny_bind (wpAny_runValue (codeAny_builtin entry_proto_collect' ?_))
  show wpAny _ _ (do again (.builtin "list.__iadd__" ⟨[← newList [], .ref l], []⟩)) _ _ s
  refine wpAny_bind (wpAny_newList (wpAny_pure ⟨Code.quiet_builtin _ (by decide +kernel), codeAny_builtin entry_list_iadd' ?_⟩))
  show wpAny _ _ (Builtin.List.listExtendWith (.ref s.heap.objs.size) (.ref l) (.ref s.heap.objs.size)) _ _ { s with heap := s.heap.push (seqObj "list" #[] 0) }
  unfold Builtin.List.listExtendWith
  have ho' : (s.heap.push (seqObj "list" #[] 0)).get? l = some o := Heap.get?_push_of_some _ ho
  refine wpAny_bind (wpAny_typeOf (T := "tuple") ⟨o, ho', hc⟩ ?_)
  have ht : (Value.type "tuple" == Value.type "tuple") = true := by rfl
  rw [if_pos (by rw [ht]; simp)]
  refine wpAny_bind (listItems_at ho' hd ?_)
  refine wpAny_bind (listItems_at (xs := #[]) (n := 0) (Heap.get?_push_size _ rfl) rfl ?_)
  rw [if_neg (by simp)]
  refine wpAny_bind (listUpdate_at (xs := #[]) (n := 0) (Heap.get?_push_size _ rfl) rfl ?_ (Nat.zero_le _) (by show (#[] ++ vs.toArray).size ≤ sizeLine + 1; simp only [Array.size_append, List.size_toArray, List.length_nil]; omega))
  refine wpAny_pure ?_
  show wpAny (model prog w) A (do
      let o ← load s.heap.objs.size
      match o.data with
      | .seq xs _ => pure xs.toList
      | _ => unsupported "internal:collect") Q E { s with heap := (s.heap.push (seqObj "list" #[] 0)).update s.heap.objs.size (Obj.mapSeq (· ++ vs.toArray)) }
  refine wpAny_bind (wpAny_load (get?_update_seq (Heap.get?_push_size _ rfl) _) ?_)
  show wpAny _ _ (pure ((#[] : Array Value) ++ vs.toArray).toList) Q E _
  rw [show ((#[] : Array Value) ++ vs.toArray).toList = vs by simp]
  exact wpAny_pure h
theorem sortedKT {κ : KeyKind} (hO : κ.OneLt) {l : Addr} {vs : List Value} {Q : Value → Shared → Prop} (hl : IsTup s.heap l vs.toArray) (h0 : KeysOf κ (pairsOf vs)) (hkk : ∀ v₁ v₂ rest, vs = v₁ :: v₂ :: rest → keyKind' (v₁ :: v₂ :: rest).toArray = pure oneType') (h64 : vs.length < 64)
    (h : ∀ st' : SortSt, (arrOf st').Perm (pairsOf vs) → SortedToK κ (arrOf st') (pairsOf vs).size → Q (.ref (s.heap.objs.size + 1)) { s with heap := sortedAll s.heap vs ((arrOf st').map (·.2)) }) :
    wpAny (model prog w) A (call (.builtin "sorted") [.ref l]) Q E s := by
  refine Calls.call_function_entry kind_sorted plain_sorted entry_sorted (args_sorted1 _) ?_
  unfold Builtin.«sorted»
  refine wpAny_bind (m := checkCount "sorted" 1 1 _) (wpAny_pure ?_)
  refine wpAny_bind (collect_tup hl ?_ (by rw [sizeLine_eq]; omega))
  refine wpAny_bind (wpAny_newList ?_)
  have hsz : ((s.heap.push (seqObj "list" #[] 0)).update s.heap.objs.size (Obj.mapSeq (· ++ vs.toArray))).objs.size = s.heap.objs.size + 1 := by
    rw [Heap.size_update, size_push']
  have hoL : (((s.heap.push (seqObj "list" #[] 0)).update s.heap.objs.size (Obj.mapSeq (· ++ vs.toArray))).push (seqObj "list" vs.toArray 0)).get? (s.heap.objs.size + 1) = some (seqObj "list" vs.toArray 0) := by
    rw [← hsz]; exact Heap.get?_push_size _ rfl
  show wpAny _ _ _ _ _ { s with heap := ((s.heap.push (seqObj "list" #[] 0)).update s.heap.objs.size (Obj.mapSeq (· ++ vs.toArray))).push (seqObj "list" vs.toArray 0) }
  rw [hsz]
  refine wpAny_bind (wpAny_holding (wpAny_call_entry slot_list_sort ⟨_, hoL, rfl⟩ entry_list_sort (list_sort_treeK hO hoL h0 hkk h64 fun st' a1 a2 => ⟨_, rfl, ?_⟩) (args_list_sort _)))
  exact wpAny_pure ⟨_, rfl, h st' a1 a2⟩
theorem sorted_strsT {l : Addr} {vs : List Value} {ss : List Str} {Q : Value → Shared → Prop} (hl : IsTup s.heap l vs.toArray) (hS : StrsAre vs ss) (h64 : vs.length < 64)
    (h : ∀ (out : Array Value) (ss' : List Str), StrsAre out.toList ss' → ss'.Perm ss → sortedS ss' = true → Q (.ref (s.heap.objs.size + 1)) { s with heap := sortedAll s.heap vs out }) :
    wpAny (model prog w) A (call (.builtin "sorted") [.ref l]) Q E s := by
  refine sortedKT strKind_oneLt hl hS.keysOf (fun v₁ v₂ rest e => keyKind_strs (by rw [← e]; exact hS)) h64 fun st' hp hs => ?_
  obtain ⟨ss', h1, h2, h3⟩ := sorted_out_str hS hp hs
  exact h _ ss' h1 h2 h3
end
def sort2F : List D → Option D
  | [.lst ds] => (strsD ds).bind fun ss => if ss.length < 64 then some (.lst ((srtS ss).map .str)) else none
  | [.tup ds] => (strsD ds).bind fun ss => if ss.length < 64 then some (.lst ((srtS ss).map .str)) else none
  | _ => none
section
variable {X : Cx}
theorem cr_sort2 : CallR X (.builtin "sorted") (rCD X.K sort2F) := by
  intro pins s σ H xs us Q I r h
  obtain ⟨W, st, ds, d, rs, iv, hf, k⟩ := h
  unfold sort2F at hf
  split at hf
  · rename_i es
    exact cr_sortD pins s σ H xs us Q I r ⟨W, st, _, d, rs, iv, hf, k⟩
  · rename_i es
    cases q : strsD es with
    | none => rw [q] at hf; cases hf
    | some ss =>
      rw [q] at hf
      simp only [Option.bind] at hf
      split at hf
      · rename_i few
        cases hf
        obtain ⟨v, rfl, rv⟩ := rps1 rs
        cases rv with
        | @tup p ys _ s1 q1 =>
          rw [strsD_of q] at q1
          have hy := q1.strs
          subst hy
          obtain ⟨its, rv, hl, _⟩ := I.tuple (sq_t s1)
          rw [Vals.ref1 r]
          have hlen0 := rv.length
          rw [List.length_map] at hlen0
          refine sorted_strsT hl rv.strs (by rw [← hlen0]; exact few) fun out ys h1 h2 h3 => ?_
          obtain ⟨ep, he'⟩ := PyProof.Rows.sortedAll_at s.heap its out
          have hlen : (ys.map V.str).length ≤ sizeLine := by rw [List.length_map, h2.length_eq]; exact small64 few
          have np : H (s.heap.objs.size + 1) = none := I.hok.fresh (Nat.le_succ _)
          refine ⟨.ref _, upd H (s.heap.objs.size + 1) (.lst (ys.map V.str)), I.laid (t' := s.toks) (fun _ _ => PyProof.Rows.sortedAll_old) (Nat.le_succ _) ⟨hlen, out.toList, ep, vals_of_strs h1, he'⟩, rfl, ?_⟩
          rw [srtS_one h2 (sorted_ord h3)] at *
          exact k _ _ (same_new np) (rp_lst iv np (Rps.of_strs _))
      · cases hf
  · cases hf
end
end Dn

set_option Elab.async false
set_option linter.all false
set_option maxRecDepth 100000
set_option maxHeartbeats 4000000
namespace Dn
open PySem PySem.Spec PyProof.Rows L2
/-! ### def f(a, .., *v, m=()); o.m(*e) -/
/-- the binder asks for one keyword-only default, then makes the tuple -/
def Bk (D : Addr) (km : Str) (mv : Value) (t r : Sem (List (Str × Value))) : Prop :=
  ∃ (β γ : Type) (k1 : Option Value → Sem β) (k2 : β → Sem γ) (k3 : γ → Sem (List (Str × Value))) (a : β), t = ((nsGet D km >>= k1) >>= k2) >>= k3 ∧ k1 (some mv) = pure a ∧ (k2 a >>= k3) = r
theorem bk_star1 {D : Addr} {p1 km pv : Str} {mv : Value} {B : List Value → Sem (List (Str × Value))} (h0 : ∀ a, Bk D km mv (B [a]) (newTuple [] >>= fun t => pure [(p1, a), (km, mv), (pv, t)]))
    (h1 : ∀ a r rs, Bk D km mv (B (a :: r :: rs)) (newTuple (r :: rs) >>= fun t => pure [(p1, a), (km, mv), (pv, t)])) :
    ∀ us rest : List Value, us.length = [p1].length → Bk D km mv (B (us ++ rest)) (newTuple rest >>= fun t => pure ([p1].zip us ++ [(km, mv), (pv, t)]))
  | [a], [], _ => h0 a
  | [a], r :: rs, _ => h1 a r rs
section
variable {CX : CXT} {P : Program} {w : World} {K : PySem.W.Frag} {mg : Str → Option Value} {base : Heap} {k : Nat} {f : Addr} {name qual : Str} {params : Arguments} {body : List Stmt} {scope : Scope} {dV doc pm cdv ct oc : Value} {an od : Option Addr}
  {osl : Array (Option Value)} {N ps : List Str} {sp : Sp} {D T0 : Addr}
theorem fn_starK {pv km : Str} (lk : K.lookup f = some ⟨oc, od, .func (PySem.W.fnOf name qual params body scope dV (.ref D) doc pm an cdv ct), osl⟩) (hcd : PySem.W.codeIn K cdv qual = true) (S : FnScope N (ps ++ [km, pv]) scope) (hCX : StX.CXUp CX)
    (hk : PySem.W.nsIn K D km = some (some (.ref T0)))
    (hb : ∀ us rest : List Value, us.length = ps.length → Bk D km (.ref T0) (bindArgs (PySem.W.fnOf name qual params body scope dV (.ref D) doc pm an cdv ct) ⟨us ++ rest, []⟩) (newTuple rest >>= fun t => pure (ps.zip us ++ [(km, .ref T0), (pv, t)])))
    (hbody : ∀ (A : Around) (outer : List Env) (s : Shared) (H : Hp) (vs : List V) (Q : VK) (E : XK), Room k (A.deeper (envOfC qual scope s.heap.objs.size f cdv)) → sp vs H Q E →
      ∃ t, PSs (cxOf CX P w K mg base N qual scope f cdv A outer s H E) body t ∧ t { nx := fun _ H' => Q .non H', rt := Q } (start N vs) H) :
    FnR P w K mg base CX (k + 1) f (fun vs H Q E => ∃ ws rest, vs = ws ++ rest ∧ ws.length = ps.length ∧ rest.length ≤ sizeLine ∧ ∀ p, H p = Option.none → sp (ws ++ [V.ref T0, V.ref p]) (upd H p (.tup rest)) Q E) := by
  intro A outer s H us vs Q E hr e0 r hsp
  obtain ⟨ws, rest, ev, hl, hz, hq⟩ := hsp
  subst ev
  obtain ⟨u1, u2, eu, r1, r2⟩ := StX.vals_split r
  subst eu
  have hn : H s.heap.objs.size = Option.none := e0.hok.fresh (Nat.le_refl _)
  have hl1 : u1.length = ps.length := by rw [← r1.length]; exact hl
  have hl2 : u2.length ≤ sizeLine := by rw [← r2.length]; exact hz
  have KX : K.In s.heap := e0.mod.kin.keeps fun b o e => (e0.bs b o e).1
  refine StX.run_bnd lk hcd S hr e0 (G := fun xs H2 => ∃ p, H p = Option.none ∧ xs = ws ++ [V.ref T0, V.ref p] ∧ H2 = upd H p (.tup rest)) (fun A' Ex Q' h => ?_) fun s2 H2 xs ⟨p, hp, ex, eH⟩ hr' => ?_
  · obtain ⟨β, γ, k1, k2, k3, a, e1, e2, e3⟩ := hb u1 u2 hl1
    have l1 : PySem.W.Looks (model P w) s.heap (nsGet D km >>= k1) a := (PySem.W.looks_nsIn KX hk).andThen (PySem.W.Looks.of_pure e2)
    rw [e1, bind_assoc]
    refine wpAny_bind (l1.here ?_)
    rw [e3]
    refine wpAny_bind (wpAny_newTuple (wpAny_pure ?_) hl2)
    have new : ObjOk P w (upd H s.heap.objs.size (.tup rest)) (s.heap.push ({ cls := .type "tuple", data := .seq u2.toArray } : Obj)) s.heap.objs.size (.tup rest) := ⟨hz, u2, r2, ⟨_, Heap.get?_push_size _ rfl, rfl, _, rfl⟩⟩
    have un := StX.un_laid (fs := frs outer) (s := s) (o := ({ cls := .type "tuple", data := .seq u2.toArray } : Obj)) (u := .tup rest) hn
    have z := h _ _ (ws ++ [V.ref T0, V.ref s.heap.objs.size]) (u1 ++ [Value.ref T0, Value.ref s.heap.objs.size]) (StX.env0_laid e0 new) un rfl (fun e s' => hCX outer s H _ _ E e s' un (fun b o q => Heap.get?_push_of_some _ q) rfl) (r1.append (.cons rfl (.cons rfl .nil)))
      (by rw [List.length_append, List.length_append, hl] <;> rfl) ⟨_, hn, rfl, rfl⟩
    rw [List.zip_append hl1.symm] at z
    exact z
  · subst ex eH
    exact hbody A outer s2 _ _ Q E hr' (hq p hp)
end
def starKF (n : Nat) (F : FDen) : FDen := fun ds st => if n ≤ ds.length ∧ ds.length ≤ big then F (ds.take n ++ [.tup [], .tup (ds.drop n)]) st else none
section
variable {P : Program} {w : World} {K : PySem.W.Frag} {mg : Str → Option Value} {base : Heap}
theorem fn_denSK {x qual pv km : Str} {st : Stmt} {f T0 : Addr} {fd : FuncData} {N ps : List Str} {k : Nat} {F : FDen} (τ : SDen) (G : FunD K x qual (defArgs st) (defBody st) (defScope st) [] [(km, .ref T0)] f fd) (hT : WrT K T0 []) (S : FnScope N (ps ++ [km, pv]) (defScope st))
    (hb : ∀ (D : Addr) (mv doc pm : Value) (an : Option Addr) (cdv ct : Value) (us rest : List Value), us.length = ps.length → Bk D km mv (bindArgs (PySem.W.fnOf x qual (defArgs st) (defBody st) (defScope st) .none (.ref D) doc pm an cdv ct) ⟨us ++ rest, []⟩) (newTuple rest >>= fun t => pure (ps.zip us ++ [(km, mv), (pv, t)])))
    (hden : ∀ ds st p, F ds st = some p → runD τ N.length ds st = some p)
    (hbody : ∀ (cdv : Value) (A : Around) (outer : List Env) (s : Shared) (H : Hp) (E : XK), Room k (A.deeper (envOfC qual (defScope st) s.heap.objs.size f cdv)) →
      Passes (L2.CX P w) (cxOf (L2.CX P w) P w K mg base N qual (defScope st) f cdv A outer s H E) E →
      PassesOwn (model P w) (A.deeper (envOfC qual (defScope st) s.heap.objs.size f cdv)) (envOfC qual (defScope st) s.heap.objs.size f cdv) (cxOf (L2.CX P w) P w K mg base N qual (defScope st) f cdv A outer s H E).xe →
      PSs (cxOf (L2.CX P w) P w K mg base N qual (defScope st) f cdv A outer s H E) (defBody st) (tSD K E τ)) : FnR P w K mg base (L2.CX P w) (k + 1) f (spF K (starKF ps.length F)) := by
  obtain ⟨oc, od, dV, kV, doc, pm, an, cdv, ct, osl, rfl, lk, hcd, hD, hK⟩ := G.ex
  have dN : dV = .none := by
    rcases hD with ⟨_, z⟩ | ⟨z, _⟩
    · exact z
    · exact absurd rfl z
  subst dN
  rcases hK with z | ⟨D, rfl, hq⟩
  · cases z
  obtain ⟨u, hu, ru⟩ := hq _ (List.mem_cons_self ..)
  obtain rfl : u = Value.ref T0 := ru
  refine (fn_starK (sp := fun vs H Q E => spF K F vs H Q E) lk hcd S StX.cxUp hu (hb D _ doc pm an cdv ct) (fun A outer s H vs Q E hr h => ?_)).imp fun vs H Q E h => ?_
  · obtain ⟨W, ds, st0, r, st', rs, iv, e, wn⟩ := h
    have hp : Passes (L2.CX P w) (cxOf (L2.CX P w) P w K mg base N qual (defScope st) f cdv A outer s H E) E := passes_call (takes_of rfl rfl rfl rfl) fun _ _ _ _ e => e
    refine ⟨tSD K E τ, hbody cdv A outer s H E hr hp (passes_of rfl), ?_⟩
    have q := hden ds st0 _ e
    unfold runD at q
    cases hm : τ (ds.map some ++ List.replicate (N.length - ds.length) none) st0 with
    | none => rw [hm] at q; cases q
    | some p =>
      obtain ⟨ro, st1⟩ := p
      rw [hm] at q
      simp only [Option.bind] at q
      refine ⟨W, st0, _, ro, st1, start_loc rs N, iv, hm, ?_⟩
      cases ro with
      | error z =>
        simp only [outR, Option.map] at q
        cases q
        exact wn
      | ok o =>
        cases o with
        | rt d => simp only [outR, Option.map] at q; cases q; exact wn
        | nx Δ => simp only [outR, Option.map] at q; cases q; exact fun W' H' e i σ' _ => wn W' H' e i .non .non
        | bk Δ => simp only [outR, Option.map] at q; cases q
        | ct Δ => simp only [outR, Option.map] at q; cases q
  · obtain ⟨W, ds, st0, r, st', rs, iv, e, wn⟩ := h
    unfold starKF at e
    split at e
    · rename_i hc
      have hl := rs.length
      refine ⟨vs.take ps.length, vs.drop ps.length, (List.take_append_drop _ _).symm, by rw [List.length_take, hl]; omega, by rw [List.length_drop, hl]; exact Nat.le_trans (Nat.sub_le _ _) (big_line hc.2), fun p np => ?_⟩
      exact ⟨W, _, st0, r, st', ((rs.take _).to (Le.of (same_new np))).append (.cons (.tup (.inr hT) .nil) (.cons (rp_tup iv np (rs.drop _)) .nil)), iv.same (same_new np), e, wn.to (Le.of (same_new np))⟩
    · cases e
end
/-- the items of *e -/
def unsP (ty : EDen) : ADen := fun Δ st => bd (ty Δ st) fun y st1 => match y with | .tup ds => some (.ok ds, st1) | _ => none
theorem bd_uns {α : Type} (ty : EDen) (Δ : Dl) (st : Sta) (k : List D → Sta → Option (Except Exc α × Sta)) : bd (unsP ty Δ st) k = bd (ty Δ st) fun y st1 => match y with | .tup ds => k ds st1 | _ => none := by
  unfold unsP
  rcases ty Δ st with _ | ⟨r, st1⟩
  · rfl
  · cases r with
    | error x => rfl
    | ok y => cases y <;> rfl
section
variable {X : Cx} {E : XK} {k : Nat} {g C : Addr} {F : FDen} {m : Str} {p pos apos : Pos} {e o : Expr} {te ty : EDen}
theorem de_methS (c : Cls X.K C) (b : BMeth X.K C m g) (G : FnR X.prog X.w X.K X.mg X.base (L2.CX X.prog X.w) k g (spF X.K F)) (hr : Room k X.A) (hx : Passes (L2.CX X.prog X.w) X E)
    (he : PE X o (tD X.K E te)) (ha : PE X e (tD X.K E ty)) (hbase : attributeBase o m X.env (eval o X.env) = eval o X.env := by rfl) :
    PE X (.Call (.Attribute o m apos) [.Starred e p] [] pos) (tD X.K E (methP C m F te (unsP ty))) := by
  refine imE (pe_methS he c b G hr hx ha hbase) fun σ H Q h => ?_
  obtain ⟨W, st0, h⟩ := h
  refine ⟨W, st0, h.seq.mono fun d st1 W1 H1 e1 i1 q v rv => ?_⟩
  obtain ⟨Δ0, r0, s0, L0, I0, eq, w0⟩ := q.2
  simp only at eq
  split at eq
  · rename_i ns ds hi
    split at eq
    · cases eq
    · rename_i hn
      obtain ⟨a, dx, fs, rfl, h1, h2, h3⟩ := ins_of I0 rv hi
      refine ⟨a, dx, fs, rfl, h1, lk_none h2 hn, fun q nq => ?_⟩
      have sm : Same H1 (upd H1 q (.met g a)) := same_new nq
      rw [bd_uns] at eq
      have h4 : tGw X.K W1 st1 E (fun Δ st => bd (ty Δ st) fun y st2 => (match y with | .tup ds => F (d :: ds) st2 | _ => none)) σ (upd H1 q (.met g a)) (fun r _ W' H' => ∀ v, Rp X.K W' H' v r → Q v H') := ⟨Δ0, r0, s0, L0.to (Le.of sm), I0.same sm, eq, w0.to (Le.of sm)⟩
      refine ⟨W1, st1, (h4.seq (k := fun y _ st2 => (match y with | .tup ds => F (d :: ds) st2 | _ => none))).mono fun y st2 W2 H2 e2 i2 q2 u ru => ?_⟩
      obtain ⟨Δ, r, st', L, I, eqy, w⟩ := q2.2
      split at eqy
      · rename_i ds2
        cases ru with
        | @tup b2 xs _ s2 r2 =>
          exact ⟨b2, xs, rfl, sq_t s2, e2.ext _ _ (fun z => not_n I0 nq (W1.sub _ z)) upd_same, W2, d :: ds2, st2, r, st', .cons ((rv.to (Le.of sm)).to e2) r2, I, eqy, w⟩
      · cases eqy
  · cases eq
end
end Dn

set_option Elab.async false
set_option linter.all false
set_option maxRecDepth 100000
set_option maxHeartbeats 4000000
namespace Dn
open PySem PySem.Spec PyProof.Rows L2
/-! ### lists of one's own: insert, [x] * n, item stored; what is handed out within a tuple -/
def insP (to : EDen) (tr : ADen) : EDen := fun Δ st => bd (to Δ st) fun o st1 => match o with
  | .hnd n => match st1.look n with
    | some (.lst _) => bd (tr Δ st1) fun as st2 => (match as with
      | [.int i, d] => (match st2.look n with
        | some (.lst ds) => if ds.length < big ∧ 0 ≤ i ∧ i < 1000000000 then some (.ok .non, st2.put n (.lst (ds.take i.toNat ++ [d] ++ ds.drop i.toNat))) else none
        | _ => none)
      | _ => none)
    | _ => none
  | _ => none
section
variable {X : Cx} {E : XK} {o a b : Expr} {to te : EDen} {tr : ADen} {pos apos cpos : Pos}
theorem de_insert (ho : PE X o (tD X.K E to)) (ha : PA X [a, b] (tAD X.K E tr)) (hbase : attributeBase o "insert" X.env (eval o X.env) = eval o X.env := by rfl)
    (hfew : ((backTo cpos (starEach [a, b] X.env)).all (fun x => !x.1) && (backToKw cpos (keywordEach [] X.env)).all (fun x => x.1.isSome) && decide ([a, b].length + ([] : List Keyword).length + (if ([] : List Keyword).isEmpty then 0 else 1) < 30)) = true := by rfl)
    (hline : (apos.endLine == cpos.line) = true := by rfl) (hs : starEach [a, b] X.env = (false, eval a X.env) :: starEach [b] X.env := by rfl) (hplain : (backTo cpos (starEach [b] X.env)).any (·.1) = false := by rfl) :
    PE X (.Call (.Attribute o "insert" apos) [a, b] [] cpos) (tD X.K E (insP to tr)) := by
  refine imE (pe_bm PySem.F.plainAttrs_list PySem.F.slot_list_insert PySem.F.type_list_insert mt_insert ho ha hbase hfew hline hs hplain) fun σ H Q h => ?_
  obtain ⟨W, st0, h⟩ := h
  refine ⟨W, st0, h.seq.mono fun x st1 W1 H1 e1 i1 q v rv => ?_⟩
  obtain ⟨Δ0, r0, s0, L0, I0, eq, w0⟩ := q.2
  simp only at eq
  split at eq
  · rename_i n
    split at eq
    · rename_i ds0 hl0
      obtain ⟨n0, p, h1, h2, us, h3, h4⟩ := I0.own _ _ (look_mem hl0)
      cases rv with
      | hnd n hh =>
        rw [h1] at hh
        cases hh
        refine ⟨.inl ⟨rfl, us, .inl (.inl h3)⟩, ?_⟩
        have h5 : tGw X.K W1 st1 E (fun Δ st => bd (tr Δ st) fun as st2 => (match as with
          | [.int i, d] => (match st2.look n with
            | some (.lst ds) => if ds.length < big ∧ 0 ≤ i ∧ i < 1000000000 then some (.ok .non, st2.put n (.lst (ds.take i.toNat ++ [d] ++ ds.drop i.toNat))) else none
            | _ => none)
          | _ => none)) σ H1 (fun r _ W' H' => ∀ v, Rp X.K W' H' v r → Q v H') := ⟨Δ0, r0, s0, L0, I0, eq, w0⟩
        refine ⟨W1, st1, h5.seq.mono fun as st2 W2 H2 e2 i2 q2 us2 ru => ?_⟩
        obtain ⟨Δ, r, st', L, I, e, k⟩ := q2.2
        simp only at e
        split at e
        · rename_i i d
          split at e
          · rename_i ds hl
            split at e
            · rename_i few
              cases e
              have hm := look_mem hl
              obtain ⟨_, p', g1, g2, us3, g3, g4⟩ := I.own _ _ hm
              have hp := e2.hh _ _ h1
              rw [hp] at g1
              cases g1
              obtain ⟨few, i0, i1⟩ := few
              cases ru with
              | cons r1 rr =>
                cases r1
                cases rr with
                | cons r2 rr =>
                  cases rr
                  rename_i u
                  refine ⟨p, us3, i, u, rfl, rfl, g3, by rw [g4.length]; exact Nat.lt_of_lt_of_le few (by decide), i0, by omega, ?_⟩
                  have le := le_updM (H := H2) (o := .lst (us3.take i.toNat ++ [u] ++ us3.drop i.toNat)) g2
                  exact k W2 _ le (I.ownUpd hm hp g2 ⟨us3.take i.toNat ++ [u] ++ us3.drop i.toNat, upd_same, (((g4.take _).append (.cons r2 .nil)).append (g4.drop _)).to le⟩) _ .non
            · cases e
          · cases e
        · cases e
    · cases eq
  · cases eq
/-- [x] * n, a list of one's own -/
def repNP (ta tb : EDen) : EDen := fun Δ st => bd (ta Δ st) fun x st1 => bd (tb Δ st1) fun y st2 => match x, y with
  | .lst xs, .int k => if -1000000 ≤ k ∧ k ≤ 1000000 ∧ xs.length * k.toNat ≤ big then some (.ok (.hnd (st2.next + 1)), { st2 with own := (st2.next + 1, .lst (List.replicate k.toNat xs).flatten) :: st2.own, next := st2.next + 1 }) else none
  | _, _ => none
theorem de_repN {ta tb : EDen} (ha : PE X a (tD X.K E ta)) (hb : PE X b (tD X.K E tb)) : PE X (.BinOp a .Mult b pos) (tD X.K E (repNP ta tb)) := by
  refine imE (pe_op op_rep ha hb) fun σ H Q h => ?_
  obtain ⟨W, st0, h⟩ := h
  refine ⟨W, st0, h.seq.mono fun x st1 W1 H1 e1 i1 q v rv => ⟨W1, st1, q.2.seq.mono fun y st2 W2 H2 e2 i2 q2 u ru => ?_⟩⟩
  obtain ⟨Δ, r, st', L, I, e, k⟩ := q2.2
  simp only at e
  split at e
  · rename_i xs j
    split at e
    · rename_i c
      cases e
      cases ru
      have rx := rv.to e2
      cases rx with
      | @lst a0 vx _ n1 s1 q1 =>
        refine ⟨_, _, _, rfl, rfl, s1, by omega, by omega, by rw [q1.length]; exact big_line c.2.2, fun p np => ?_⟩
        have s3 : Same H2 (upd H2 p (.lst (List.replicate j.toNat vx).flatten)) := same_new np
        have le := le_addO (n := st2.next + 1) I s3 np (Nat.lt_succ_self _)
        exact k _ _ le (I.addO (c := .lst (List.replicate j.toNat xs).flatten) s3 np rfl ⟨_, upd_same, (rps_rep q1 _).to le⟩) _ (.hnd _ (if_pos rfl))
    · cases e
  · cases e
/-- o[i] = e, o a list of one's own -/
def setOP (to ti te : EDen) : SDen := fun Δ st => bd (te Δ st) fun d st1 => bd (to Δ st1) fun o st2 => bd (ti Δ st2) fun i st3 => match o, i with
  | .hnd n, .int k => match st3.look n with
    | some (.lst ds) => (ixN ds.length k).map fun j => (.ok (.nx Δ), st3.put n (.lst (ds.set j d)))
    | _ => none
  | _, _ => none
theorem rps_set {K : PySem.W.Frag} {W : Wd} {H : Hp} {v : V} {d : D} (r : Rp K W H v d) : ∀ {vs : List V} {ds : List D} (j : Nat), Rps K W H vs ds → Rps K W H (vs.set j v) (ds.set j d)
  | _, _, _, .nil => .nil
  | _, _, 0, .cons a t => .cons r t
  | _, _, j + 1, .cons a t => .cons a (rps_set r j t)
theorem ds_setO {i e : Expr} {ti : EDen} {pos' : Pos} (ho : PE X o (tD X.K E to)) (hi : PE X i (tD X.K E ti)) (he : PE X e (tD X.K E te))
    (ha : ∀ v, assign (.Subscript o i pos') X.env v = (do
      let ov ← holding [v] (eval o X.env)
      let iv ← holding [v, ov] (eval i X.env)
      standAt pos'
      holding [v, ov, iv] (setItem ov iv v)
      release [v, ov, iv] []) := by intro _; rfl)
    (hs : swapsWithSole [.Subscript o i pos'] e pos.line X.env = pure false := by rfl) (hw : swappedStores [.Subscript o i pos'] e X.env = pure none := by rfl)
    (h1 : List.map (fun x => x.snd) (assignEach [.Subscript o i pos'] X.env) = [assign (.Subscript o i pos') X.env] := by rfl) :
    PS X (.Assign [.Subscript o i pos'] e pos) (tSD X.K E (setOP to ti te)) := by
  refine imS (ps_asg he (pg_sub ho hi set_list ha) hs hw h1) fun D σ H h => ?_
  obtain ⟨W, st0, h⟩ := h
  refine ⟨W, st0, h.seq.mono fun d st1 W1 H1 e1 i1 q v rv => ?_⟩
  refine ⟨W1, st1, q.2.seq.mono fun x st2 W2 H2 e2 i2 q2 u ru => ?_⟩
  refine ⟨W2, st2, q2.2.seq.mono fun y st3 W3 H3 e3 i3 q3 u3 r3 => ?_⟩
  obtain ⟨Δ, r, st', L, I, eq, k⟩ := q3.2
  simp only at eq
  split at eq
  · rename_i n kk
    split at eq
    · rename_i ds hl
      cases hj : ixN ds.length kk with
      | none => rw [hj] at eq; cases eq
      | some j =>
        rw [hj] at eq
        cases eq
        have hm := look_mem hl
        obtain ⟨n0, p, h1, h2, us, h3, h4⟩ := I.own _ _ hm
        have ru3 := ru.to e3
        cases ru3 with
        | hnd n hh =>
          rw [h1] at hh
          cases hh
          cases r3
          refine ⟨p, us, kk, j, rfl, rfl, h3, by rw [h4.length]; exact hj, ?_⟩
          have le := le_updM (H := H3) (o := .lst (us.set j v)) h2
          exact k W3 _ le (I.ownUpd hm h1 h2 ⟨us.set j v, upd_same, (rps_set ((rv.to e2).to e3) j h4).to le⟩) σ (L.to le)
    · cases eq
  · cases eq
end
/-- (a, b, c): c a list of one's own, handed out -/
def frzT (st0 : Sta) : Except Exc D × Sta → Mo D
  | (.ok (.tup [a, b, .hnd n]), st') => if st0.next < n then (match st'.look n with
    | some (.lst ds) => some (.ok (.tup [a, b, .lst ds]), st'.drop n)
    | _ => none) else none
  | _ => none
def fzTF (F : FDen) : FDen := fun ds st => (F ds st).bind (frzT st)
theorem spF_fzT {K : PySem.W.Frag} {F : FDen} {vs : List V} {H : Hp} {Q : VK} {E : XK} (h : spF K (fzTF F) vs H Q E) : spF K F vs H Q E := by
  obtain ⟨W, ds, st, r, st', rs, I, e, w⟩ := h
  unfold fzTF at e
  cases hF : F ds st with
  | none => rw [hF] at e; cases e
  | some p =>
    obtain ⟨r1, st1⟩ := p
    rw [hF] at e
    simp only [Option.bind] at e
    refine ⟨W, ds, st, r1, st1, rs, I, hF, ?_⟩
    unfold frzT at e
    split at e
    · rename_i a b n st2 ep
      cases ep
      split at e
      · rename_i hn
        split at e
        · rename_i es hl
          cases e
          intro W' H' le i v rv
          obtain ⟨n0, p, h1, h2, us, h3, h5⟩ := i.own _ _ (look_mem hl)
          have nW : W.h n ≠ some p := fun z => by have := I.bd n p z; omega
          have nx : H p = none := (le.newH n p h1).resolve_left nW
          have nN : ¬ W.N p := fun z => I.there p z nx
          have rv' := rv.tow (lw_delO (x := p))
          cases rv' with
          | tup s q =>
            refine w (W'.delO p) H' (le.delO nN) (i.delO h1 n0) _ (.tup s ?_)
            cases q with
            | cons qa q =>
              cases q with
              | cons qb q =>
                cases q with
                | cons qc q =>
                  cases q
                  cases qc with
                  | hnd n hh =>
                    have hh' : W'.h n = some _ := hh
                    rw [h1] at hh'
                    cases hh'
                    exact .cons qa (.cons qb (.cons (.lst (fun z => z.2 rfl) h3 (h5.tow lw_delO)) .nil))
        · cases e
      · cases e
    · cases e
theorem fn_fzT {P : Program} {w : World} {K : PySem.W.Frag} {mg : Str → Option Value} {base : Heap} {CX : CXT} {k : Nat} {f : Addr} {fd : FuncData} {ps : List Str} {F : FDen} (G : FnOk P w K mg base CX k f fd ps (spF K F)) : FnOk P w K mg base CX k f fd ps (spF K (fzTF F)) :=
  G.imp fun _ _ _ _ h => spF_fzT h
/-! ### min(i, j), int(b), len(o) of own objects, f(e, ..) by positional values alone -/
def min2F : List D → Option D
  | [.int i, .int j] => some (.int (if j < i then j else i))
  | _ => none
def int2F : List D → Option D
  | [.int i] => some (.int i)
  | [.bl k] => some (.int (if k then 1 else 0))
  | _ => none
section
variable {X : Cx}
theorem cr_min2 (hc : X.calm = true) : CallR X (.builtin "min") (rCD X.K min2F) := by
  intro pins s σ H xs us Q I r h
  obtain ⟨W, st, ds, d, rs, iv, hf, k⟩ := h
  unfold min2F at hf
  split at hf
  · rename_i i j
    cases hf
    cases rs with
    | cons r1 rs =>
      cases rs with
      | cons r2 rs =>
        cases rs; cases r1; cases r2
        exact call_min2 hc pins s σ H _ us Q I r ⟨i, j, rfl, k _ _ (Same.refl _) (.int _)⟩
  · cases hf
theorem cr_int2 : CallR X (.type "int") (rCD X.K int2F) := by
  intro pins s σ H xs us Q I r h
  obtain ⟨W, st, ds, d, rs, iv, hf, k⟩ := h
  unfold int2F at hf
  split at hf
  · rename_i i
    cases hf
    obtain ⟨v, rfl, rv⟩ := rps1 rs
    cases rv
    exact call_int1 pins s σ H _ us Q I r (.inl ⟨i, rfl, k _ _ (Same.refl _) (.int _)⟩)
  · rename_i b
    cases hf
    obtain ⟨v, rfl, rv⟩ := rps1 rs
    cases rv
    exact call_int1 pins s σ H _ us Q I r (.inr ⟨b, rfl, k _ _ (Same.refl _) (.int _)⟩)
  · cases hf
end
section
variable {X : Cx} {E : XK} {k : Nat} {f C : Addr} {fd : FuncData} {ps : List Str} {F : FDen} {a e : Expr} {es : List Expr} {ta : EDen} {tr : ADen} {p pos : Pos} {x : Str} {sp : Sp} {t : TA}
theorem pe_callR {CX : CXT} (G : FnR X.prog X.w X.K X.mg X.base CX k f sp) (hr : Room k X.A) (hk : PySem.W.keepIn X.K (.ref f) = true) (hg : Gl X x) (hm : X.mg x = some (.ref f)) (hx : Passes CX X E) (ha : PA X (e :: es) t) (hd : (x == ("__debug__" : Str)) = false := by decide)
    (he : starEach (e :: es) X.env = (false, eval e X.env) :: starEach es X.env := by rfl) (hpl : (backTo pos (starEach es X.env)).any (·.1) = false := by rfl) :
    PE X (.Call (.Name x p) (e :: es) [] pos) (fun σ H Q => t σ H fun vs H1 => sp vs H1 Q E) := by
  refine ⟨fun pins s σ H Q I h => ?_⟩
  refine wpAny_Call_Name_kw (ld_glob I hg hm ?_ hd)
  refine PySem.W.callWith_K (h₀ := X.base) I.ok.mod.kin hk (thn (ha.run pos pins s σ H _ I h) fun us s1 ⟨vs, H1, I1, r, q⟩ => ⟨I1.kIn, ?_⟩) he hpl
  exact wpAny_call (run_fnR G hr hx I1 r q)
theorem de_callR (G : FnR X.prog X.w X.K X.mg X.base (L2.CX X.prog X.w) k f (spF X.K F)) (hr : Room k X.A) (hm : X.mg x = some (.ref f)) (hk : PySem.W.keepIn X.K (.ref f) = true) (hx : Passes (L2.CX X.prog X.w) X E) (ha : PA X (e :: es) (tAD X.K E tr)) (hg : Gl X x := by rfl) (hd : (x == ("__debug__" : Str)) = false := by decide)
    (he : starEach (e :: es) X.env = (false, eval e X.env) :: starEach es X.env := by rfl) (hpl : (backTo pos (starEach es X.env)).any (·.1) = false := by rfl) :
    PE X (.Call (.Name x p) (e :: es) [] pos) (tD X.K E (callP F tr)) := by
  refine imE (pe_callR G hr hk hg hm hx ha hd he hpl) fun σ H Q h => ?_
  obtain ⟨W, st0, h⟩ := h
  refine ⟨W, st0, (h.seq (k := fun ds _ st => F ds st)).mono fun ds st1 W1 H1 e1 i1 q vs rs => ?_⟩
  obtain ⟨Δ, r, st', L, I, e, w⟩ := q.2
  exact ⟨W1, ds, st1, r, st', rs, I, e, w⟩
/-- len(o), o of an own class -/
def lenOwnP (C : Addr) (F : FDen) (ta : EDen) : EDen := fun Δ st => bd (ta Δ st) fun x st1 => match insOf st1 C x with
  | some _ => bd (F [x] st1) fun r st2 => match r with
    | .int i => if 0 ≤ i ∧ i < 1000000000 then some (.ok (.int i), st2) else none
    | _ => none
  | none => none
theorem len_own {CX : CXT} (dn : Dun X.K C "__len__" f) (G : FnOk X.prog X.w X.K X.mg X.base CX k f fd ps sp) (hr : Room (k + 1) X.A) (hb : Binds X.K fd ps []) (hx : Passes CX X E) :
    CallR X (.builtin "len") (fun xs H Q => ∃ q dx fs, xs = [.ref q] ∧ H q = some (.ins C dx fs) ∧ sp [.ref q] H (fun r H' => ∃ i : Int, r = .int i ∧ 0 ≤ i ∧ i < 1000000000 ∧ Q (.int i) H') E) := by
  intro pins s σ H xs us Q I r h
  obtain ⟨q, dx, fs, rfl, ea, z⟩ := h
  obtain ⟨u, rfl, ru⟩ := vals1 r
  obtain rfl : u = Value.ref q := ru
  obtain ⟨mA, O, _⟩ := ins_get I.hok ea
  obtain ⟨od, J, _⟩ := O.look
  obtain ⟨m, hF⟩ := I.fr
  refine PySem.W.len_K hF I.ok.mod.kin J dn.at_ dn.fn (wpAny_mono (run_fn1 (us := [.ref q]) (vs := [.ref q]) G hr.in1 hb hx I (.cons rfl .nil) z) (fun r s' zz => ?_) fun _ _ z => z)
  obtain ⟨w, H', I', rw_, i, rfl, i0, i1, q'⟩ := zz
  obtain ⟨t, rfl⟩ := rw_
  exact ⟨⟨i0, by omega⟩, .int i, H', I'.kept (t' := s'.toks + 1) (fun b o e => e), ⟨_, rfl⟩, q'⟩
theorem de_lenOwn (dn : Dun X.K C "__len__" f) (G : FnOk X.prog X.w X.K X.mg X.base (L2.CX X.prog X.w) k f fd ps (spF X.K F)) (hr : Room (k + 1) X.A) (hb : Binds X.K fd ps []) (hx : Passes (L2.CX X.prog X.w) X E) (hm : X.mg "len" = none) (ha : PE X a (tD X.K E ta)) (hg : Gl X "len" := by rfl)
    (he : starEach [a] X.env = (false, eval a X.env) :: starEach [] X.env := by rfl) (hpl : (backTo pos (starEach [] X.env)).any (·.1) = false := by rfl) :
    PE X (.Call (.Name "len" p) [a] [] pos) (tD X.K E (lenOwnP C F ta)) := by
  refine imE (pe_callB (len_own dn G hr hb hx) hg hm PySem.boot_len (pa_cons ha pa_nil he) (by decide) (by decide) he hpl) fun σ H Q h => ?_
  obtain ⟨W, st0, h⟩ := h
  refine ⟨W, st0, h.seq.mono fun x st1 W1 H1 e1 i1 q v rv => ?_⟩
  obtain ⟨Δ0, r0, s0, L0, I0, eq, w0⟩ := q.2
  simp only at eq
  split at eq
  · rename_i pp hi
    obtain ⟨ns, ds⟩ := pp
    obtain ⟨a, dx, fs, rfl, h1, h2, h3⟩ := ins_of I0 rv hi
    have h4 : tGw X.K W1 st1 E (fun (_ : Dl) st => bd (F [x] st) fun r st2 => (match r with | .int i => if 0 ≤ i ∧ i < 1000000000 then some ((.ok (.int i) : Except Exc D), st2) else none | _ => none)) σ H1 (fun r _ W' H' => ∀ v, Rp X.K W' H' v r → Q v H') := ⟨Δ0, r0, s0, L0, I0, eq, w0⟩
    obtain ⟨Δ, r, st', L, I, e, w⟩ := h4.seq (τ := fun _ st => F [x] st) (k := fun r _ st2 => (match r with | .int i => if 0 ≤ i ∧ i < 1000000000 then some ((.ok (.int i) : Except Exc D), st2) else none | _ => none))
    refine ⟨a, dx, fs, rfl, h1, W1, [x], st1, r, st', .cons rv .nil, I, e, ?_⟩
    cases r with
    | error z => exact w
    | ok d =>
      intro W' H' le i' v' rv'
      obtain ⟨_, hn⟩ := w W' H' le i'
      obtain ⟨Δ, r2, s2, L, I, hb, kk⟩ := hn
      simp only at hb
      split at hb
      · rename_i i
        split at hb
        · rename_i c
          cases hb
          cases rv'
          exact ⟨i, rfl, c.1, c.2, kk W' H' (Le.refl _ _) I _ (.int _)⟩
        · cases hb
      · cases hb
  · cases eq
end
end Dn

set_option Elab.async false
set_option linter.all false
set_option maxRecDepth 100000
set_option maxHeartbeats 4000000
namespace Dn
open PySem PySem.Spec PyProof.Rows L2
/-! ### a, b, c = x, y, z -/
def par3P (i j l : Nat) (tr : ADen) : SDen := fun Δ st => bd (tr Δ st) fun ds st1 => match ds with
  | [x, y, z] => some (.ok (.nx (((Δ.set i (some x)).set j (some y)).set l (some z))), st1)
  | _ => none
section
variable {X : Cx} {E : XK} {a b c : Expr} {pos : Pos}
theorem ds_par3 {i j l : Nat} {x y z : Str} {px py pz pt : Pos} {kt k2 : Nat} {pt2 : Pos} {tr : ADen} (hN : X.N.Nodup) (ha : PA X [a, b, c] (tAD X.K E tr)) (hc : X.calm = true := by rfl) (hi : X.N[i]? = some x := by rfl) (hj : X.N[j]? = some y := by rfl) (hl : X.N[l]? = some z := by rfl) (hij : i ≠ j := by decide) (hil : i ≠ l := by decide) (hjl : j ≠ l := by decide)
    (hx : X.env.scope.names.lookup x = some .local := by rfl) (hy : X.env.scope.names.lookup y = some .local := by rfl) (hz : X.env.scope.names.lookup z = some .local := by rfl)
    (hw : swappedStores [.Tuple [.Name x px, .Name y py, .Name z pz] kt pt] (.Tuple [a, b, c] k2 pt2) X.env = pure (some [x, y, z]) := by rfl)
    (hs : swapsWithSole [.Tuple [.Name x px, .Name y py, .Name z pz] kt pt] (.Tuple [a, b, c] k2 pt2) pos.line X.env = pure false := by rfl) :
    PS X (.Assign [.Tuple [.Name x px, .Name y py, .Name z pz] kt pt] (.Tuple [a, b, c] k2 pt2) pos) (tSD X.K E (par3P i j l tr)) := by
  refine imS (ps_par3 hc hN hi hj hl hij hil hjl hx hy hz ha hw hs) fun D σ H h => ?_
  obtain ⟨W, st, h⟩ := h
  refine ⟨W, st, h.seq.mono fun ds st1 W1 H1 e1 i1 q vs rs => ?_⟩
  obtain ⟨Δ, r, st', L, I, e, k⟩ := q.2
  simp only at e
  split at e
  · cases e
    cases rs with
    | cons r1 rs =>
      cases rs with
      | cons r2 rs =>
        cases rs with
        | cons r3 rs =>
          cases rs
          exact ⟨_, _, _, rfl, k W1 H1 (Le.refl _ _) I _ (((L.set r1).set r2).set r3)⟩
  · cases e
end
end Dn

set_option Elab.async false
set_option linter.all false
set_option maxRecDepth 100000
set_option maxHeartbeats 4000000
namespace Dn
open PySem PySem.Spec PyProof.Rows L2
/-! ### o.m(e, .., k = v) of a def with a star parameter and one keyword-only parameter -/
def FnRK (P : Program) (w : World) (K : PySem.W.Frag) (mg : Str → Option Value) (base : Heap) (CX : CXT) (k : Nat) (f : Addr) (km : Str) (sp : Sp) : Prop :=
  ∀ (A : Around) (outer : List Env) (s : Shared) (H : Hp) (us : List Value) (vs : List V) (mu : Value) (mv : V) (Q : VK) (E : XK), Room k A → Env0 P w K mg base A outer s H → Vals vs us → RelV mv mu → sp (vs ++ [mv]) H Q E →
    codeAny (model P w) A (.call (.ref f) ⟨us, [(km, mu)]⟩) (CR CX outer P w H s Q E) s
theorem FnRK.mono {P : Program} {w : World} {K : PySem.W.Frag} {mg : Str → Option Value} {base : Heap} {CX : CXT} {j k : Nat} {f : Addr} {km : Str} {sp : Sp} (F : FnRK P w K mg base CX j f km sp) (h : j ≤ k) : FnRK P w K mg base CX k f km sp := fun A outer s H us vs mu mv Q E hr => F A outer s H us vs mu mv Q E (hr.mono h)
def starKKF (n : Nat) (F : FDen) : FDen := fun ds st => match ds.getLast? with
  | some m => if n + 1 ≤ ds.length ∧ ds.length ≤ big then F (ds.dropLast.take n ++ [m, .tup (ds.dropLast.drop n)]) st else none
  | none => none
theorem bkk_star1 {p1 km pv : Str} {B : List Value → Value → Sem (List (Str × Value))} (h0 : ∀ a m, B [a] m = (newTuple [] >>= fun t => pure [(p1, a), (km, m), (pv, t)]))
    (h1 : ∀ a r rs m, B (a :: r :: rs) m = (newTuple (r :: rs) >>= fun t => pure [(p1, a), (km, m), (pv, t)])) :
    ∀ (us rest : List Value) (m : Value), us.length = [p1].length → B (us ++ rest) m = (newTuple rest >>= fun t => pure ([p1].zip us ++ [(km, m), (pv, t)]))
  | [a], [], m, _ => h0 a m
  | [a], r :: rs, m, _ => h1 a r rs m
section
variable {P : Program} {w : World} {K : PySem.W.Frag} {mg : Str → Option Value} {base : Heap}
theorem fn_denSKK {x qual pv km : Str} {st : Stmt} {f T0 : Addr} {fd : FuncData} {N ps : List Str} {k : Nat} {F : FDen} (τ : SDen) (G : FunD K x qual (defArgs st) (defBody st) (defScope st) [] [(km, .ref T0)] f fd) (S : FnScope N (ps ++ [km, pv]) (defScope st))
    (hb : ∀ (D : Addr) (doc pm : Value) (an : Option Addr) (cdv ct : Value) (us rest : List Value) (mv : Value), us.length = ps.length → bindArgs (PySem.W.fnOf x qual (defArgs st) (defBody st) (defScope st) .none (.ref D) doc pm an cdv ct) ⟨us ++ rest, [(km, mv)]⟩ = (newTuple rest >>= fun t => pure (ps.zip us ++ [(km, mv), (pv, t)])))
    (hden : ∀ ds st p, F ds st = some p → runD τ N.length ds st = some p)
    (hbody : ∀ (cdv : Value) (A : Around) (outer : List Env) (s : Shared) (H : Hp) (E : XK), Room k (A.deeper (envOfC qual (defScope st) s.heap.objs.size f cdv)) →
      Passes (L2.CX P w) (cxOf (L2.CX P w) P w K mg base N qual (defScope st) f cdv A outer s H E) E →
      PassesOwn (model P w) (A.deeper (envOfC qual (defScope st) s.heap.objs.size f cdv)) (envOfC qual (defScope st) s.heap.objs.size f cdv) (cxOf (L2.CX P w) P w K mg base N qual (defScope st) f cdv A outer s H E).xe →
      PSs (cxOf (L2.CX P w) P w K mg base N qual (defScope st) f cdv A outer s H E) (defBody st) (tSD K E τ)) : FnRK P w K mg base (L2.CX P w) (k + 1) f km (spF K (starKKF ps.length F)) := by
  obtain ⟨oc, od, dV, kV, doc, pm, an, cdv, ct, osl, rfl, lk, hcd, hD, hK⟩ := G.ex
  have dN : dV = .none := by
    rcases hD with ⟨_, z⟩ | ⟨z, _⟩
    · exact z
    · exact absurd rfl z
  subst dN
  rcases hK with z | ⟨D, rfl, hq⟩
  · cases z
  intro A outer s H us vs mu mv Q E hr e0 r rm hsp
  obtain ⟨W, ds, st0, r0, st', rs, iv, e, wn⟩ := hsp
  unfold starKKF at e
  split at e
  · rename_i md hlast
    split at e
    · rename_i hc
      have hl := rs.length
      rw [List.length_append, List.length_singleton] at hl
      have dsp : ds = ds.dropLast ++ [md] := by
        obtain ⟨l, hl2⟩ := List.getLast?_eq_some_iff.mp hlast
        rw [hl2, List.dropLast_concat]
      rw [dsp] at rs
      obtain ⟨rsa, rsm⟩ : Rps K W H vs ds.dropLast ∧ Rp K W H mv md := by
        have len : vs.length = ds.dropLast.length := by rw [List.length_dropLast]; omega
        have t1 := rs.take vs.length
        have t2 := rs.drop vs.length
        rw [List.take_left, len, List.take_left] at t1
        rw [List.drop_left, len, List.drop_left] at t2
        cases t2 with
        | cons a b => exact ⟨t1, a⟩
      have la := rsa.length
      have hld : ds.dropLast.length + 1 = ds.length := by rw [List.length_dropLast]; omega
      -- the values
      obtain ⟨u1, u2, eu, q1, q2⟩ := StX.vals_split (ws := vs.take ps.length) (rest := vs.drop ps.length) (us := us) (by rw [List.take_append_drop]; exact r)
      subst eu
      have hl1 : u1.length = ps.length := by rw [← q1.length, List.length_take]; omega
      have hn : H s.heap.objs.size = Option.none := e0.hok.fresh (Nat.le_refl _)
      have hl2 : u2.length ≤ sizeLine := by rw [← q2.length, List.length_drop]; exact Nat.le_trans (Nat.sub_le _ _) (by rw [la]; exact big_line (by omega))
      have hz : (vs.drop ps.length).length ≤ sizeLine := by rw [q2.length]; exact hl2
      refine StX.run_bnd lk hcd S hr e0 (G := fun xs H2 => ∃ p, H p = Option.none ∧ xs = vs.take ps.length ++ [mv, V.ref p] ∧ H2 = upd H p (.tup (vs.drop ps.length))) (fun A' Ex Q' h => ?_) fun s2 H2 xs ⟨p, hp, ex, eH⟩ hr' => ?_
      · rw [hb D doc pm an cdv ct u1 u2 mu hl1]
        refine wpAny_bind (wpAny_newTuple (wpAny_pure ?_) hl2)
        have new : ObjOk P w (upd H s.heap.objs.size (.tup (vs.drop ps.length))) (s.heap.push ({ cls := .type "tuple", data := .seq u2.toArray } : Obj)) s.heap.objs.size (.tup (vs.drop ps.length)) := ⟨hz, u2, q2, ⟨_, Heap.get?_push_size _ rfl, rfl, _, rfl⟩⟩
        have un := StX.un_laid (fs := frs outer) (s := s) (o := ({ cls := .type "tuple", data := .seq u2.toArray } : Obj)) (u := .tup (vs.drop ps.length)) hn
        have z := h _ _ (vs.take ps.length ++ [mv, V.ref s.heap.objs.size]) (u1 ++ [mu, Value.ref s.heap.objs.size]) (StX.env0_laid e0 new) un rfl (fun e s' => StX.cxUp outer s H _ _ E e s' un (fun b o q => Heap.get?_push_of_some _ q) rfl) (q1.append (.cons rm (.cons rfl .nil)))
          (by rw [List.length_append, List.length_append, q1.length, hl1] <;> rfl) ⟨_, hn, rfl, rfl⟩
        rw [List.zip_append hl1.symm] at z
        exact z
      · subst ex eH
        have hp0 : Passes (L2.CX P w) (cxOf (L2.CX P w) P w K mg base N qual (defScope st) f cdv A outer s2 (upd H p (.tup (vs.drop ps.length))) E) E := passes_call (takes_of rfl rfl rfl rfl) fun _ _ _ _ e => e
        refine ⟨tSD K E τ, hbody cdv A outer s2 _ E hr' hp0 (passes_of rfl), ?_⟩
        have rs2 : Rps K W (upd H p (.tup (vs.drop ps.length))) (vs.take ps.length ++ [mv, V.ref p]) (ds.dropLast.take ps.length ++ [md, .tup (ds.dropLast.drop ps.length)]) :=
          ((rsa.take _).to (Le.of (same_new hp))).append (.cons (rsm.to (Le.of (same_new hp))) (.cons (rp_tup iv hp (rsa.drop _)) .nil))
        have iv2 := iv.same (same_new (o := .tup (vs.drop ps.length)) hp)
        have wn2 := wn.to (Le.of (same_new (o := .tup (vs.drop ps.length)) hp))
        have q := hden _ st0 _ e
        unfold runD at q
        generalize (ds.dropLast.take ps.length ++ [md, .tup (ds.dropLast.drop ps.length)]) = ds2 at q rs2
        cases hm : τ (ds2.map some ++ List.replicate (N.length - ds2.length) none) st0 with
        | none => rw [hm] at q; cases q
        | some pp =>
          obtain ⟨ro, st1⟩ := pp
          rw [hm] at q
          simp only [Option.bind] at q
          refine ⟨W, st0, _, ro, st1, start_loc rs2 N, iv2, hm, ?_⟩
          cases ro with
          | error z =>
            simp only [outR, Option.map] at q
            cases q
            exact wn2
          | ok o =>
            cases o with
            | rt d => simp only [outR, Option.map] at q; cases q; exact wn2
            | nx Δ => simp only [outR, Option.map] at q; cases q; exact fun W' H' e i σ' _ => wn2 W' H' e i .non .non
            | bk Δ => simp only [outR, Option.map] at q; cases q
            | ct Δ => simp only [outR, Option.map] at q; cases q
    · cases e
  · cases e
end
/-- o.m(e, .., k = v) -/
def methKP (C : Addr) (m : Str) (F : FDen) (te : EDen) (tr tk : ADen) : EDen := fun Δ st => bd (te Δ st) fun d st1 => match insOf st1 C d with
  | some (ns, _) => if m ∈ ns then none else bd (tr Δ st1) fun ds st2 => bd (tk Δ st2) fun ys st3 => match ys with
    | [y] => F (d :: ds ++ [y]) st3
    | _ => none
  | none => none
section
variable {X : Cx} {E : XK} {k : Nat} {f C : Addr} {F : FDen} {m km : Str} {pos apos kpos : Pos} {a o e : Expr} {es : List Expr} {te : EDen} {tr tk : ADen} {pl : Sem Bool}
theorem run_fnRK {CX : CXT} {sp : Sp} {pins : List (Addr × Obj)} {σ : L2.St} {H : Hp} {s : Shared} {Q : VK} {us : List Value} {vs : List V} {mu : Value} {mv : V} (G : FnRK X.prog X.w X.K X.mg X.base CX k f km sp) (hr : Room k X.A) (hx : Passes CX X E) (I : Inv X pins σ H s) (r : Vals vs us) (rm : RelV mv mu) (h : sp (vs ++ [mv]) H Q E) :
    codeAny (model X.prog X.w) X.A (.call (.ref f) ⟨us, [(km, mu)]⟩) (fun r s' => match r with | .ok (.ret v) => EP X pins σ Q v s' | .ok _ => False | .error e => X.xe e s') s := by
  refine codeAny_mono (G X.A X.stack s H us vs mu mv Q E hr I.env0 r rm h) fun r s' hq => ?_
  cases r with
  | error e => exact hx pins σ H s e s' I hq
  | ok fl =>
    cases fl with
    | ret u => exact I.after hq
    | next => exact False.elim hq
    | brk => exact False.elim hq
    | cont => exact False.elim hq
def tMK (C : Addr) (m : Str) (sp : Sp) (E : XK) (ta : TE) (t tk : TA) : TE := fun σ H Q => ta σ H fun x H1 => ∃ a dx fs, x = V.ref a ∧ H1 a = some (.ins C dx fs) ∧ fs.lookup m = none ∧ t σ H1 fun vs H2 => tk σ H2 fun zs H3 => ∃ z, zs = [z] ∧ sp (.ref a :: vs ++ [z]) H3 Q E
theorem tMK_of {σ : L2.St} {H : Hp} {Q : VK} (h : tD X.K E (methKP C m F te tr tk) σ H Q) : tMK C m (spF X.K F) E (tD X.K E te) (tAD X.K E tr) (tAD X.K E tk) σ H Q := by
  obtain ⟨W, st0, h⟩ := h
  refine ⟨W, st0, h.seq.mono fun d st1 W1 H1 e1 i1 q v rv => ?_⟩
  obtain ⟨Δ0, r0, s0, L0, I0, eq, w0⟩ := q.2
  simp only at eq
  split at eq
  · rename_i ns ds hi
    split at eq
    · cases eq
    · rename_i hn
      obtain ⟨a, dx, fs, rfl, h1, h2, h3⟩ := ins_of I0 rv hi
      refine ⟨a, dx, fs, rfl, h1, lk_none h2 hn, ?_⟩
      have h4 : tGw X.K W1 st1 E (fun Δ st => bd (tr Δ st) fun ds st2 => bd (tk Δ st2) fun ys st3 => (match ys with | [y] => F (d :: ds ++ [y]) st3 | _ => none)) σ H1 (fun r _ W' H' => ∀ v, Rp X.K W' H' v r → Q v H') := ⟨Δ0, r0, s0, L0, I0, eq, w0⟩
      refine ⟨W1, st1, (h4.seq (k := fun ds Δ st2 => bd (tk Δ st2) fun ys st3 => (match ys with | [y] => F (d :: ds ++ [y]) st3 | _ => none))).mono fun ds st2 W2 H2 e2 i2 q2 vs rs => ?_⟩
      refine ⟨W2, st2, (q2.2.seq (k := fun ys _ st3 => (match ys with | [y] => F (d :: ds ++ [y]) st3 | _ => none))).mono fun ys st3 W3 H3 e3 i3 q3 zs rz => ?_⟩
      obtain ⟨Δ, r, st', L, I, e, w⟩ := q3.2
      split at e
      · rename_i y
        cases rz with
        | cons r1 rr =>
          cases rr
          exact ⟨_, rfl, W3, _, st3, r, st', (Rps.cons ((rv.to e2).to e3) (rs.to e3)).append (.cons r1 .nil), I, e, w⟩
      · cases e
  · cases eq
theorem de_methRK0 (c : Cls X.K C) (hm : Meth X.K C m f) (G : FnRK X.prog X.w X.K X.mg X.base (L2.CX X.prog X.w) k f km (spF X.K F)) (hr : Room k X.A) (hx : Passes (L2.CX X.prog X.w) X E)
    (he : PE X o (tD X.K E te)) (hk : PK X [⟨some km, e, kpos⟩] (tAD X.K E tk))
    (hall : (backToKw pos (keywordEach [⟨some km, e, kpos⟩] X.env)).all (·.1.isSome) = true := by rfl) (hks : (backToKw pos (keywordEach [⟨some km, e, kpos⟩] X.env)).filterMap (·.1) = [km] := by rfl)
    (hpl : ((backTo pos (starEach [] X.env)).any (·.1) || (backToKw pos (keywordEach [⟨some km, e, kpos⟩] X.env)).any (·.1.isNone)) = false := by rfl)
    (ht : eval (.Call (.Attribute o m apos) [] [⟨some km, e, kpos⟩] pos) X.env = (do
      let ov ← eval o X.env
      standAt apos.atName
      let (f, first) ← holding [ov] (getMethod ov m pl)
      callWith pos f first (backTo pos (starEach [] X.env)) (backToKw pos (keywordEach [⟨some km, e, kpos⟩] X.env))) := by rfl) :
    PE X (.Call (.Attribute o m apos) [] [⟨some km, e, kpos⟩] pos) (tD X.K E (methKP C m F te nilP tk)) := by
  refine ⟨fun pins s σ H Q I h => ?_⟩
  refine PySem.W.methodCall_KW (pl := pl) (thn (he.run pins s σ H _ I (tMK_of h)) fun u s1 ⟨x, H1, I1, rx, a, dx, fs, ex, ea, l, q⟩ => ?_) ht
  subst ex
  obtain rfl : u = Value.ref a := rx
  refine getmeth_ok I1 ea c hm l ?_
  obtain ⟨W, st, Δ, r, st', L, I0, e0, w0⟩ := q
  cases e0
  have q' := w0 W H1 (Le.refl _ _) I0 [] .nil
  refine PySem.W.callWith_KW0 (first := [.ref a]) (h₀ := X.base) I1.ok.mod.kin hm.kp hall (thn (hk.run pos pins s1 σ H1 _ I1 q') fun ws s2 ⟨zs, H2, I2, rz, z, ez, q2⟩ => ⟨I2.kIn, ?_⟩) hpl
  rw [hks]
  subst ez
  cases rz with
  | cons r1 rr =>
    cases rr
    exact wpAny_call (run_fnRK (us := [.ref a]) (vs := [.ref a]) G hr hx I2 (.cons rfl .nil) r1 q2)
theorem de_methRK (c : Cls X.K C) (hm : Meth X.K C m f) (G : FnRK X.prog X.w X.K X.mg X.base (L2.CX X.prog X.w) k f km (spF X.K F)) (hr : Room k X.A) (hx : Passes (L2.CX X.prog X.w) X E)
    (he : PE X o (tD X.K E te)) (ha : PA X (a :: es) (tAD X.K E tr)) (hk : PK X [⟨some km, e, kpos⟩] (tAD X.K E tk))
    (hall : (backToKw pos (keywordEach [⟨some km, e, kpos⟩] X.env)).all (·.1.isSome) = true := by rfl) (hks : (backToKw pos (keywordEach [⟨some km, e, kpos⟩] X.env)).filterMap (·.1) = [km] := by rfl)
    (hst : starEach (a :: es) X.env = (false, eval a X.env) :: starEach es X.env := by rfl)
    (hpl : ((backTo pos (starEach (a :: es) X.env)).any (·.1) || (backToKw pos (keywordEach [⟨some km, e, kpos⟩] X.env)).any (·.1.isNone)) = false := by rfl)
    (ht : eval (.Call (.Attribute o m apos) (a :: es) [⟨some km, e, kpos⟩] pos) X.env = (do
      let ov ← eval o X.env
      standAt apos.atName
      let (f, first) ← holding [ov] (getMethod ov m pl)
      callWith pos f first (backTo pos (starEach (a :: es) X.env)) (backToKw pos (keywordEach [⟨some km, e, kpos⟩] X.env))) := by rfl) :
    PE X (.Call (.Attribute o m apos) (a :: es) [⟨some km, e, kpos⟩] pos) (tD X.K E (methKP C m F te tr tk)) := by
  refine ⟨fun pins s σ H Q I h => ?_⟩
  refine PySem.W.methodCall_KW (pl := pl) (thn (he.run pins s σ H _ I (tMK_of h)) fun u s1 ⟨x, H1, I1, rx, p, dx, fs, ex, ea, l, q⟩ => ?_) ht
  subst ex
  obtain rfl : u = Value.ref p := rx
  refine getmeth_ok I1 ea c hm l ?_
  refine PySem.W.callWith_KW (first := [.ref p]) (h₀ := X.base) I1.ok.mod.kin hm.kp hall (thn (ha.run pos pins s1 σ H1 _ I1 q) fun us s2 ⟨vs, H2, I2, r, q1⟩ => ?_) hpl hst
  refine thn (hk.run pos pins s2 σ H2 _ I2 q1) fun ws s3 ⟨zs, H3, I3, rz, z, ez, q2⟩ => ⟨I3.kIn, ?_⟩
  rw [hks]
  subst ez
  cases rz with
  | cons r1 rr =>
    cases rr
    exact wpAny_call (run_fnRK (us := .ref p :: us) (vs := .ref p :: vs) G hr hx I3 (.cons rfl r) r1 q2)
end
end Dn

set_option Elab.async false
set_option linter.all false
set_option maxRecDepth 100000
set_option maxHeartbeats 4000000
namespace Dn
open PySem PySem.Spec PyProof.Rows L2
/-! ### tuple(a list of one's own) -/
def tupHP (ta : EDen) : EDen := fun Δ st => bd (ta Δ st) fun x st1 => (lstOf st1 x).map fun xs => (.ok (.tup xs), st1)
section
variable {X : Cx} {E : XK} {a : Expr} {ta : EDen} {p pos : Pos}
theorem de_tupH (hm : X.mg "tuple" = none) (ha : PE X a (tD X.K E ta)) (hg : Gl X "tuple" := by rfl) (he : starEach (a :: []) X.env = (false, eval a X.env) :: starEach [] X.env := by rfl) (hpl : (backTo pos (starEach [] X.env)).any (·.1) = false := by rfl) :
    PE X (.Call (.Name "tuple" p) [a] [] pos) (tD X.K E (tupHP ta)) := by
  refine imE (pe_callTy call_tuple_of hg hm (by decide +kernel) (pa_cons ha pa_nil he) (by decide) (by decide) he hpl) fun σ H Q h => ?_
  obtain ⟨W, st0, h⟩ := h
  refine ⟨W, st0, h.seq.mono fun x st1 W1 H1 e1 i1 q v rv => ?_⟩
  obtain ⟨Δ, r, st', L, I, e, k⟩ := q.2
  simp only at e
  cases hx : lstOf st1 x with
  | none => rw [hx] at e; cases e
  | some xs =>
    rw [hx] at e
    cases e
    obtain ⟨a1, us, rfl, h1, r1⟩ := lst_of I rv hx
    exact ⟨_, _, rfl, .inl ⟨sq_l h1, fun p np => k W1 _ (Le.of (same_new np)) (I.same (same_new np)) _ (rp_tup I np r1)⟩⟩
end
end Dn

set_option Elab.async false
set_option linter.all false
set_option maxRecDepth 100000
set_option maxHeartbeats 4000000
namespace Dn
open PySem PySem.Spec PyProof.Rows L2
/-! ### str(..) of an int or a text -/
section
variable {X : Cx}
def str2F : List D → Option D
  | [.int i] => if i.natAbs.log2 < 1920 then some (.str (toString i)) else none
  | [.str a] => some (.str a)
  | _ => none
theorem cr_str2 : CallR X (.type "str") (rCD X.K str2F) := by
  intro pins s σ H xs us Q I r h
  obtain ⟨W, st, ds, d, rs, iv, hf, k⟩ := h
  unfold str2F at hf
  split at hf
  · split at hf
    · cases hf
      obtain ⟨v, rfl, rv⟩ := rps1 rs
      cases rv
      exact call_str_int pins s σ H _ us Q I r ⟨_, rfl, by assumption, k _ _ (Same.refl _) (.str _)⟩
    · cases hf
  · cases hf
    obtain ⟨v, rfl, rv⟩ := rps1 rs
    cases rv
    exact SkE.call_str_str pins s σ H _ us Q I r ⟨_, rfl, k _ _ (Same.refl _) (.str _)⟩
  · cases hf
end
end Dn

set_option Elab.async false
set_option linter.all false
set_option maxRecDepth 100000
set_option maxHeartbeats 4000000
namespace Dn
open PySem PySem.Spec PyProof.Rows L2
/-! ### while, by fuel -/
def whGo (tc : TDen) (tb : SDen) : Nat → SDen
  | 0 => fun _ _ => none
  | n + 1 => fun Δ st => bd (tc Δ st) fun b st1 => if b = true then (match tb Δ st1 with
    | some (.ok (.nx Δ2), st2) => whGo tc tb n Δ2 st2
    | some (.ok (.ct Δ2), st2) => whGo tc tb n Δ2 st2
    | some (.ok (.bk Δ2), st2) => some (.ok (.nx Δ2), st2)
    | r => r) else some (.ok (.nx Δ), st1)
def whN : Nat := 100000
def whP (tc : TDen) (tb : SDen) : SDen := whGo tc tb whN
section
variable {X : Cx} {E : XK}
theorem tSD_wh {tc : TDen} {tb : SDen} {n : Nat} {D : Ends} {σ : L2.St} {H : Hp} (h : tSD X.K E (whGo tc tb n) D σ H) : tWhile (tTD X.K E tc) (tSD X.K E tb) D σ H := by
  refine ⟨fun m σ H => tSD X.K E (whGo tc tb m) D σ H, ⟨n, h⟩, fun m σ H h => ?_⟩
  obtain ⟨W0, st0, h⟩ := h
  cases m with
  | zero =>
    obtain ⟨Δ, r, st', L, I, e, k⟩ := h
    cases e
  | succ m =>
    refine ⟨W0, st0, (h.seq (k := fun b Δ st1 => if b = true then (match tb Δ st1 with
      | some (.ok (.nx Δ2), st2) => whGo tc tb m Δ2 st2
      | some (.ok (.ct Δ2), st2) => whGo tc tb m Δ2 st2
      | some (.ok (.bk Δ2), st2) => some (.ok (.nx Δ2), st2)
      | r => r) else some (.ok (.nx Δ), st1))).mono fun b st1 W1 H1 e1 i1 q => ?_⟩
    obtain ⟨_, Δ, r, st', L, I, e, k⟩ := q
    cases b with
    | false =>
      rw [if_neg Bool.false_ne_true]
      simp only [Bool.false_eq_true, if_false] at e
      cases e
      exact k W1 H1 (Le.refl _ _) I σ L
    | true =>
      rw [if_pos rfl]
      simp only [if_true] at e
      refine ⟨fun σ' H' => tSD X.K E (whGo tc tb m) D σ' H', fun σ' H' h' => ⟨m, Nat.lt_succ_self _, h'⟩, W1, st1, Δ, ?_⟩
      cases ht : tb Δ st1 with
      | none => rw [ht] at e; cases e
      | some p =>
        obtain ⟨rb, st2⟩ := p
        rw [ht] at e
        refine ⟨rb, st2, L, I, rfl, ?_⟩
        cases rb with
        | error z =>
          simp only at e
          cases e
          exact k
        | ok o =>
          cases o with
          | nx Δ2 => exact fun W4 H4 e4 i4 σ4 L4 => ⟨W4, st2, Δ2, r, st', L4, i4, e, k.to e4⟩
          | ct Δ2 => exact fun W4 H4 e4 i4 σ4 L4 => ⟨W4, st2, Δ2, r, st', L4, i4, e, k.to e4⟩
          | bk Δ2 =>
            simp only at e
            cases e
            exact k
          | rt d =>
            simp only at e
            cases e
            exact k
theorem ds_while {c : Expr} {body : List Stmt} {pos : Pos} {tc : TDen} {tb : SDen} (hp : PassesOwn (model X.prog X.w) X.A X.env X.xe) (hc : PT X c (tTD X.K E tc)) (hb : PSs X body (tSD X.K E tb)) : PS X (.While c body [] pos) (tSD X.K E (whP tc tb)) :=
  imS (ps_while hp hc hb) fun _ _ _ h => tSD_wh h
end
theorem wh_ff {tc : TDen} {tb : SDen} {n : Nat} {Δ : Dl} {st st1 : Sta} (h : tc Δ st = some (.ok false, st1)) : whGo tc tb (n + 1) Δ st = some (.ok (.nx Δ), st1) := by
  unfold whGo bd
  rw [h]
  rfl
theorem wh_tt {tc : TDen} {tb : SDen} {n : Nat} {Δ Δ2 : Dl} {st st1 st2 : Sta} {r : Mo Out} (h : tc Δ st = some (.ok true, st1)) (hb : tb Δ st1 = some (.ok (.nx Δ2), st2)) (hr : whGo tc tb n Δ2 st2 = r) : whGo tc tb (n + 1) Δ st = r := by
  unfold whGo bd
  rw [h]
  simp only [if_true]
  rw [hb]
  exact hr
/-! ### text.split(sep) -/
def splF (c : Str) : D → Option D
  | .str a => if a.length ≤ big then some (.lst ((Txt.split a c).map .str)) else none
  | _ => none
def splP (c : Str) (ta : EDen) : EDen := fun Δ st => bd (ta Δ st) fun x st1 => (splF c x).map fun d => (.ok d, st1)
section
variable {X : Cx} {E : XK} {a : Expr} {ta : EDen} {pos : Pos}
theorem de_split {c : Str} {j : Nat} {cp apos : Pos} (ha : PE X a (tD X.K E ta)) (hc : (c.length == 0) = false) (hs : starEach [.Constant (.str c) j cp] X.env = [(false, eval (.Constant (.str c) j cp) X.env)] := by rfl) (hbase : attributeBase a "split" X.env (eval a X.env) = eval a X.env := by rfl) (hline : (apos.endLine == pos.line) = true := by rfl) :
    PE X (.Call (.Attribute a "split" apos) [.Constant (.str c) j cp] [] pos) (tD X.K E (splP c ta)) := by
  refine imE (pe_split ha (pe_str (x := c) (j := j) (pos := cp)) hs hbase hline) fun σ H Q h => ?_
  obtain ⟨W, st0, h⟩ := h
  refine ⟨W, st0, h.seq.mono fun x st1 W1 H1 e1 i1 q v rv => ?_⟩
  obtain ⟨Δ, r, st', L, I, e, k⟩ := q.2
  simp only at e
  cases hx : splF c x with
  | none => rw [hx] at e; cases e
  | some d =>
    rw [hx] at e
    cases e
    unfold splF at hx
    split at hx
    · rename_i z
      split at hx
      · rename_i hz
        cases hx
        cases rv
        refine ⟨⟨z, rfl⟩, z, c, rfl, rfl, hc, ?_, fun p np => k W1 _ (Le.of (same_new np)) (I.same (same_new np)) _ (rp_lst I np (Rps.of_strs _))⟩
        unfold big at hz
        rw [sizeLine_eq]
        omega
      · cases hx
    · cases hx
/-! ### int(..) of a text -/
def int3F : List D → Option D
  | [.int i] => some (.int i)
  | [.bl k] => some (.int (if k then 1 else 0))
  | [.str a] => (PySem.intText? a).bind fun n => if a.length ≤ 640 then some (.int n) else none
  | _ => none
theorem cr_int3 : CallR X (.type "int") (rCD X.K int3F) := by
  intro pins s σ H xs us Q I r h
  obtain ⟨W, st, ds, d, rs, iv, hf, k⟩ := h
  unfold int3F at hf
  split at hf
  · rename_i i
    cases hf
    obtain ⟨v, rfl, rv⟩ := rps1 rs
    cases rv
    exact call_int1 pins s σ H _ us Q I r (.inl ⟨i, rfl, k _ _ (Same.refl _) (.int _)⟩)
  · rename_i b
    cases hf
    obtain ⟨v, rfl, rv⟩ := rps1 rs
    cases rv
    exact call_int1 pins s σ H _ us Q I r (.inr ⟨b, rfl, k _ _ (Same.refl _) (.int _)⟩)
  · rename_i z
    cases hn : PySem.intText? z with
    | none => rw [hn] at hf; cases hf
    | some n =>
      rw [hn] at hf
      simp only [Option.bind] at hf
      split at hf
      · rename_i hz
        cases hf
        obtain ⟨v, rfl, rv⟩ := rps1 rs
        cases rv
        exact call_int_str pins s σ H _ us Q I r ⟨z, n, rfl, hn, hz, k _ _ (Same.refl _) (.int _)⟩
      · cases hf
  · cases hf
/-! ### a tuple of the module -/
theorem de_gtup {x : Str} {c : Addr} {zs : List V} {ds : List D} {pos : Pos} (hg : Gl X x) (hm : X.mg x = some (.ref c)) (hw : WrT X.K c zs) (hz : ∀ W H, Rps X.K W H zs ds) (hd : (x == ("__debug__" : Str)) = false := by decide) : PE X (.Name x pos) (tD X.K E (cstP (.tup ds))) :=
  de_glob (v := .ref c) hg hm rfl (fun W H => .tup (.inr hw) (hz W H)) hd
end
end Dn

set_option Elab.async false
set_option linter.all false
set_option maxRecDepth 100000
set_option maxHeartbeats 4000000
namespace Dn
open PySem PySem.Spec PyProof.Rows L2
def topS (i : Nat) : Stmt := PySem.Challenge.pw_unseenrest_k24_whole_texts_read_back.main.body.getD i (.Pass ⟨0, 0, 0, 0⟩)
abbrev s_l_bag : Stmt := (topS 30)
abbrev N_l_bag : List Str := ["_law_script"]
theorem sc_l_bag : FnScope N_l_bag ["_law_script"] (defScope s_l_bag) := ⟨rfl, rfl, rfl, by decide +kernel, rfl, by decide +kernel, by decide +kernel⟩
def F_l_bag : FDen := bagF 10038
abbrev s_l_pull : Stmt := (topS 31)
abbrev N_l_pull : List Str := ["_law_bag_here", "_law_many", "_law_seed", "_law_cell", "_law_digit"]
theorem sc_l_pull : FnScope N_l_pull ["_law_bag_here", "_law_many"] (defScope s_l_pull) := ⟨rfl, rfl, rfl, by decide +kernel, rfl, by decide +kernel, by decide +kernel⟩
def d_l_pull : SDen :=
    (sqP (ifP (andT (tstP (binP eqD (bagIx 0 2) (cstP (.int 0)))) (tstP (binP ltD (bagIx 0 1) (bltP lenF (consP (bagIx 0 0) nilP))))) (sqP (asP (.one 3) (binP ixD (bagIx 0 0) (bagIx 0 1)))
    (sqP (bagSet 0 1 (binP addD (bagIx 0 1) (cstP (.int 1))))
    (ifP (tstP (binP geD (varP 3) (binP (intD powI) (cstP (.int 10)) (cstP (.int 18))))) (bagSet 0 2 (varP 3)) (bagSet 0 3 (binP (intD modI) (bltP intF (consP (binP addD (binP addD (binP mulD (bagIx 0 3) (cstP (.int 48611))) (binP mulD (binP (intD modI) (bltP intF (consP (varP 3) nilP)) (cstP (.int 2147483423))) (cstP (.int 15013)))) (cstP (.int 29))) nilP)) (cstP (.int 2147483579))))))) nxP)
    (sqP (ifP (tstP (binP gtD (bagIx 0 2) (cstP (.int 0)))) (sqP (asP (.one 4) (binP (intD modI) (bltP intF (consP (bagIx 0 2) nilP)) (varP 1)))
    (sqP (bagSet 0 2 (binP (intD fdivI) (bagIx 0 2) (varP 1)))
    (rtP (varP 4)))) nxP)
    (sqP (bagSet 0 4 (binP addD (bagIx 0 4) (cstP (.int 1))))
    (sqP (asP (.one 2) (bagIx 0 3))
    (sqP (bagSet 0 3 (binP (intD modI) (bltP intF (consP (binP addD (binP addD (binP addD (binP mulD (binP mulD (varP 2) (varP 2)) (cstP (.int 5))) (binP mulD (varP 2) (cstP (.int 31153)))) (binP mulD (bagIx 0 4) (cstP (.int 1299827)))) (cstP (.int 70001))) nilP)) (cstP (.int 2147483549))))
    (rtP (binP (intD modI) (bltP intF (consP (binP addD (binP (intD fdivI) (bagIx 0 3) (cstP (.int 71))) (binP mulD (binP (intD modI) (bltP intF (consP (bagIx 0 3) nilP)) (cstP (.int 7907))) (cstP (.int 61)))) nilP)) (varP 1))))))))
def F_l_pull : FDen := gd 2 (runD (d_l_pull) N_l_pull.length)
abbrev s_l_mixed : Stmt := (topS 35)
abbrev N_l_mixed : List Str := ["_law_bag_here", "_law_things", "_law_found", "_law_thing"]
theorem sc_l_mixed : FnScope N_l_mixed ["_law_bag_here", "_law_things"] (defScope s_l_mixed) := ⟨rfl, rfl, rfl, by decide +kernel, rfl, by decide +kernel, by decide +kernel⟩
def d_l_mixed : SDen :=
    (sqP (asP (.one 2) (newP nilP))
    (sqP (foP (itP (varP 1)) (.one 3) (exP (insP (varP 2) (consP (callP F_l_pull (consP (varP 0) (consP (binP addD (lenLP (varP 2)) (cstP (.int 1))) nilP))) (consP (varP 3) nilP)))))
    (rtP (varP 2))))
def G_l_mixed : FDen := gd 2 (runD (d_l_mixed) N_l_mixed.length)
def F_l_mixed : FDen := fzF (G_l_mixed)
abbrev s_l_any : Stmt := (topS 32)
abbrev N_l_any : List Str := ["_law_bag_here", "_law_things"]
theorem sc_l_any : FnScope N_l_any ["_law_bag_here", "_law_things"] (defScope s_l_any) := ⟨rfl, rfl, rfl, by decide +kernel, rfl, by decide +kernel, by decide +kernel⟩
def d_l_any : SDen :=
    (rtP (binP ixD (varP 1) (callP F_l_pull (consP (varP 0) (consP (bltP lenF (consP (varP 1) nilP)) nilP)))))
def F_l_any : FDen := gd 2 (runD (d_l_any) N_l_any.length)
abbrev s_l_names : Stmt := (topS 34)
abbrev N_l_names : List Str := ["_law_bag_here", "_law_many", "_law_letters", "_law_stem", "_law_at", "_law_first", "_law_k"]
theorem sc_l_names : FnScope N_l_names ["_law_bag_here", "_law_many"] (defScope s_l_names) := ⟨rfl, rfl, rfl, by decide +kernel, rfl, by decide +kernel, by decide +kernel⟩
def d_l_names : SDen :=
    (sqP (asP (.one 2) (cstP (.str "abcdefghijklmnopqrstuvwxyz")))
    (sqP (asP (.one 3) (binP joinF (cstP (.str "")) (lcP (rng1P (consP (callP F_l_pull (consP (varP 0) (consP (cstP (.int 4)) nilP))) nilP)) (.one 6) yesT (callP F_l_any (consP (varP 0) (consP (varP 2) nilP))) [6])))
    (sqP (asP (.tup [4, 5]) (tupP (consP (callP F_l_pull (consP (varP 0) (consP (binP addD (bltP lenF (consP (varP 3) nilP)) (cstP (.int 1))) nilP))) (consP (callP F_l_pull (consP (varP 0) (consP (cstP (.int 26)) nilP))) nilP))))
    (rtP (lcP (rng1P (consP (varP 1) nilP)) (.one 6) yesT (binP addD (binP addD (slP (varP 3) noP (soP (varP 4))) (binP ixD (varP 2) (binP (intD modI) (bltP intF (consP (binP addD (varP 5) (binP mulD (cstP (.int 7)) (varP 6))) nilP)) (cstP (.int 26))))) (slP (varP 3) (soP (varP 4)) noP)) [6])))))
def F_l_names : FDen := gd 2 (runD (d_l_names) N_l_names.length)
abbrev s_l_group : Stmt := (topS 36)
abbrev N_l_group : List Str := ["_law_bag_here", "_law_names_here", "_law_name"]
theorem sc_l_group : FnScope N_l_group ["_law_bag_here", "_law_names_here"] (defScope s_l_group) := ⟨rfl, rfl, rfl, by decide +kernel, rfl, by decide +kernel, by decide +kernel⟩
def d_l_group : SDen :=
    (rtP (bltP tupleF (consP (slP (lcP (itP (bltP sortF (consP (varP 1) nilP))) (.one 2) (tstP (binP eqD (callP F_l_pull (consP (varP 0) (consP (cstP (.int 2)) nilP))) (cstP (.int 0)))) (varP 2) [2]) noP (soP (cstP (.int 3)))) nilP)))
def F_l_group : FDen := gd 2 (runD (d_l_group) N_l_group.length)
abbrev s_l_bases : Stmt := (topS 37)
abbrev N_l_bases : List Str := ["_law_bag_here", "_law_group_here", "_law_name"]
theorem sc_l_bases : FnScope N_l_bases ["_law_bag_here", "_law_group_here"] (defScope s_l_bases) := ⟨rfl, rfl, rfl, by decide +kernel, rfl, by decide +kernel, by decide +kernel⟩
def d_l_bases : SDen :=
    (sqP (ifP (tstP (binP eqD (varP 1) (tupP nilP))) (rtP (tupP (consP (tupP nilP) nilP))) nxP)
    (sqP (ifP (andT (tstP (binP eqD (bltP lenF (consP (varP 1) nilP)) (cstP (.int 3)))) (tstP (binP eqD (callP F_l_pull (consP (varP 0) (consP (cstP (.int 2)) nilP))) (cstP (.int 0))))) (rtP (tupP (consP (slP (varP 1) noP (soP (cstP (.int 2)))) (consP (slP (varP 1) (soP (cstP (.int 1))) noP) (consP (tupP (consP (binP ixD (varP 1) (cstP (.int 0))) (consP (binP ixD (varP 1) (cstP (.int 2))) nilP))) nilP))))) nxP)
    (rtP (ifP (tstP (binP eqD (callP F_l_pull (consP (varP 0) (consP (cstP (.int 2)) nilP))) (cstP (.int 0)))) (tupP (consP (varP 1) nilP)) (bltP tupleF (consP (lcP (itP (varP 1)) (.one 2) yesT (tupP (consP (varP 2) nilP)) [2]) nilP))))))
def F_l_bases : FDen := gd 2 (runD (d_l_bases) N_l_bases.length)
abbrev s_l_step : Stmt := (topS 38)
abbrev N_l_step : List Str := ["_law_bag_here", "_law_names_here", "_law_fresh", "_law_looks", "_law_way", "_law_some", "_law_name"]
theorem sc_l_step : FnScope N_l_step ["_law_bag_here", "_law_names_here", "_law_fresh", "_law_looks"] (defScope s_l_step) := ⟨rfl, rfl, rfl, by decide +kernel, rfl, by decide +kernel, by decide +kernel⟩
def d_l_step : SDen :=
    (sqP (parP 4 5 (consP (callP F_l_pull (consP (varP 0) (consP (cstP (.int 11)) nilP))) (consP (callP F_l_group (consP (varP 0) (consP (varP 1) nilP))) nilP)))
    (sqP (ifP (andT (tstP (binP ltD (varP 4) (cstP (.int 3)))) (tstP (binP neD (varP 1) (lstP nilP)))) (sqP (asP (.one 6) (callP F_l_any (consP (varP 0) (consP (varP 1) nilP))))
    (rtP (binP ixD (tupP (consP (tupP (consP (cstP (.str "delete")) (consP (varP 6) nilP))) (consP (tupP (consP (cstP (.str "contract")) (consP (varP 6) nilP))) (consP (tupP (consP (cstP (.str "rename")) (consP (varP 6) (consP (varP 2) nilP)))) nilP)))) (varP 4)))) nxP)
    (sqP (ifP (tstP (binP eqD (varP 4) (cstP (.int 3)))) (rtP (tupP (consP (cstP (.str "dual")) nilP))) nxP)
    (sqP (ifP (tstP (binP inD (varP 4) (tupP (consP (cstP (.int 4)) (consP (cstP (.int 5)) nilP))))) (rtP (tupP (consP (cstP (.str "extend")) (consP (varP 2) (consP (varP 5) nilP))))) nxP)
    (sqP (ifP (andT (tstP (binP inD (varP 4) (tupP (consP (cstP (.int 6)) (consP (cstP (.int 7)) nilP))))) (tstP (binP gtD (varP 3) (cstP (.int 0))))) (rtP (ifP (tstP (binP eqD (varP 4) (cstP (.int 6)))) (tupP (consP (cstP (.str "top")) (consP (varP 2) nilP))) (tupP (consP (cstP (.str "cut")) nilP)))) nxP)
    (rtP (ifP (tstP (binP eqD (varP 4) (cstP (.int 8)))) (tupP (consP (cstP (.str "unite")) (consP (callP F_l_bases (consP (varP 0) (consP (varP 5) nilP))) nilP))) (tupP (consP (cstP (.str "truncate")) (consP (varP 5) nilP))))))))))
def F_l_step : FDen := gd 4 (runD (d_l_step) N_l_step.length)
abbrev s_l_ends : Stmt := (topS 39)
abbrev N_l_ends : List Str := ["_law_names_here", "_law_step_here", "_law_left", "_law_name"]
theorem sc_l_ends : FnScope N_l_ends ["_law_names_here", "_law_step_here"] (defScope s_l_ends) := ⟨rfl, rfl, rfl, by decide +kernel, rfl, by decide +kernel, by decide +kernel⟩
def d_l_ends : SDen :=
    (sqP (asP (.one 2) (lcP (itP (varP 0)) (.one 3) (orT (tstP (binP notInD (binP ixD (varP 1) (cstP (.int 0))) (tupP (consP (cstP (.str "delete")) (consP (cstP (.str "contract")) (consP (cstP (.str "rename")) nilP)))))) (tstP (binP neD (varP 3) (binP ixD (varP 1) (cstP (.int 1)))))) (varP 3) [3]))
    (sqP (ifP (tstP (binP inD (binP ixD (varP 1) (cstP (.int 0))) (tupP (consP (cstP (.str "extend")) (consP (cstP (.str "top")) (consP (cstP (.str "rename")) nilP)))))) (asP (.one 2) (binP addD (varP 2) (lstP (consP (ifP (tstP (binP eqD (binP ixD (varP 1) (cstP (.int 0))) (cstP (.str "rename")))) (binP ixD (varP 1) (cstP (.int 2))) (binP ixD (varP 1) (cstP (.int 1)))) nilP)))) nxP)
    (rtP (bltP sortF (consP (varP 2) nilP)))))
def F_l_ends : FDen := gd 2 (runD (d_l_ends) N_l_ends.length)
abbrev s_l_plain : Stmt := (topS 40)
abbrev N_l_plain : List Str := ["_law_bag_here", "_law_names_here", "_law_fresh", "_law_looks", "_law_steps", "_law_here", "_law_word", "_law_step_here"]
theorem sc_l_plain : FnScope N_l_plain ["_law_bag_here", "_law_names_here", "_law_fresh", "_law_looks"] (defScope s_l_plain) := ⟨rfl, rfl, rfl, by decide +kernel, rfl, by decide +kernel, by decide +kernel⟩
def d_l_plain : SDen :=
    (sqP (parP 4 5 (consP (newP nilP) (consP (bltP sortF (consP (varP 1) nilP)) nilP)))
    (sqP (foP (itP (varP 2)) (.one 6) (sqP (asP (.one 7) (callP F_l_step (consP (varP 0) (consP (varP 5) (consP (varP 6) (consP (varP 3) nilP))))))
    (sqP (asP (.one 3) (binP subD (varP 3) (bltP int2F (consP (binP inD (binP ixD (varP 7) (cstP (.int 0))) (tupP (consP (cstP (.str "top")) (consP (cstP (.str "cut")) nilP)))) nilP))))
    (sqP (asP (.one 5) (callP F_l_ends (consP (varP 5) (consP (varP 7) nilP))))
    (exP (appP (varP 4) (varP 7)))))))
    (rtP (tupP (consP (tupHP (varP 4)) (consP (varP 5) (consP (varP 3) nilP)))))))
def F_l_plain : FDen := gd 4 (runD (d_l_plain) N_l_plain.length)
abbrev s_l_test : Stmt := (topS 41)
abbrev N_l_test : List Str := ["_law_bag_here", "_law_names_here", "_law_looks", "_law_way", "_law_some"]
theorem sc_l_test : FnScope N_l_test ["_law_bag_here", "_law_names_here", "_law_looks"] (defScope s_l_test) := ⟨rfl, rfl, rfl, by decide +kernel, rfl, by decide +kernel, by decide +kernel⟩
def d_l_test : SDen :=
    (sqP (parP 3 4 (consP (callP F_l_pull (consP (varP 0) (consP (cstP (.int 4)) nilP))) (consP (callP F_l_group (consP (varP 0) (consP (varP 1) nilP))) nilP)))
    (sqP (ifP (andT (tstP (binP eqD (varP 3) (cstP (.int 0)))) (tstP (binP gtD (varP 2) (cstP (.int 0))))) (rtP (tupP (consP (cstP (.str "whole")) nilP))) nxP)
    (rtP (ifP (andT (tstP (binP eqD (varP 3) (cstP (.int 1)))) (tstP (binP neD (varP 1) (lstP nilP)))) (tupP (consP (cstP (.str "spans")) (consP (varP 4) (consP (callP F_l_any (consP (varP 0) (consP (varP 1) nilP))) nilP)))) (tupP (consP (cstP (.str "rank")) (consP (varP 4) (consP (callP F_l_pull (consP (varP 0) (consP (cstP (.int 4)) nilP))) nilP))))))))
def F_l_test : FDen := gd 3 (runD (d_l_test) N_l_test.length)
abbrev s_l_still : Stmt := (topS 42)
abbrev N_l_still : List Str := ["_law_bag_here", "_law_names_here", "_law_looks", "_law_steps", "_law_k", "_law_way", "_law_some", "_law_step_here"]
theorem sc_l_still : FnScope N_l_still ["_law_bag_here", "_law_names_here", "_law_looks"] (defScope s_l_still) := ⟨rfl, rfl, rfl, by decide +kernel, rfl, by decide +kernel, by decide +kernel⟩
def d_l_still : SDen :=
    (sqP (asP (.one 3) (newP nilP))
    (sqP (foP (rng1P (consP (callP F_l_pull (consP (varP 0) (consP (cstP (.int 3)) nilP))) nilP)) (.one 4) (sqP (parP 5 6 (consP (callP F_l_pull (consP (varP 0) (consP (cstP (.int 3)) nilP))) (consP (callP F_l_group (consP (varP 0) (consP (varP 1) nilP))) nilP)))
    (sqP (asP (.one 7) (ifP (tstP (binP eqD (varP 5) (cstP (.int 0)))) (tupP (consP (cstP (.str "truncate")) (consP (varP 6) nilP))) (tupP (consP (cstP (.str "unite")) (consP (callP F_l_bases (consP (varP 0) (consP (varP 6) nilP))) nilP)))))
    (sqP (ifP (andT (tstP (binP eqD (varP 5) (cstP (.int 2)))) (tstP (binP gtD (varP 2) (cstP (.int 0))))) (parP 7 2 (consP (tupP (consP (cstP (.str "cut")) nilP)) (consP (binP subD (varP 2) (cstP (.int 1))) nilP))) nxP)
    (exP (appP (varP 3) (varP 7)))))))
    (rtP (tupP (consP (tupHP (varP 3)) (consP (varP 2) nilP))))))
def F_l_still : FDen := gd 3 (runD (d_l_still) N_l_still.length)
abbrev s_l_body : Stmt := (topS 43)
abbrev N_l_body : List Str := ["_law_bag_here", "_law_names_here", "_law_fresh", "_law_looks", "_law_at", "_law_steps", "_law_here", "_law_late", "_law_test_here", "_law_first", "_law_second"]
theorem sc_l_body : FnScope N_l_body ["_law_bag_here", "_law_names_here", "_law_fresh", "_law_looks"] (defScope s_l_body) := ⟨rfl, rfl, rfl, by decide +kernel, rfl, by decide +kernel, by decide +kernel⟩
def d_l_body : SDen :=
    (sqP (asP (.one 4) (callP F_l_pull (consP (varP 0) (consP (binP addD (bltP lenF (consP (varP 2) nilP)) (cstP (.int 1))) nilP))))
    (sqP (asP (.tup [5, 6, 3]) (callP F_l_plain (consP (varP 0) (consP (varP 1) (consP (slP (varP 2) noP (soP (varP 4))) (consP (varP 3) nilP))))))
    (sqP (ifP (tstP (binP eqD (callP F_l_pull (consP (varP 0) (consP (cstP (.int 2)) nilP))) (cstP (.int 0)))) (sqP (asP (.one 8) (callP F_l_test (consP (varP 0) (consP (varP 6) (consP (varP 3) nilP)))))
    (sqP (asP (.one 3) (binP subD (varP 3) (bltP int2F (consP (binP eqD (varP 8) (tupP (consP (cstP (.str "whole")) nilP))) nilP))))
    (sqP (asP (.tup [9, 3]) (callP F_l_still (consP (varP 0) (consP (varP 6) (consP (varP 3) nilP)))))
    (sqP (asP (.tup [10, 3]) (callP F_l_still (consP (varP 0) (consP (varP 6) (consP (varP 3) nilP)))))
    (asP (.one 5) (binP addD (varP 5) (tupP (consP (tupP (consP (cstP (.str "if")) (consP (varP 8) (consP (varP 9) (consP (varP 10) nilP))))) nilP)))))))) nxP)
    (sqP (ifP (tstP (binP eqD (callP F_l_pull (consP (varP 0) (consP (cstP (.int 4)) nilP))) (cstP (.int 0)))) (asP (.one 5) (binP addD (varP 5) (tupP (consP (tupP (consP (cstP (.str "repeat")) (consP (binP addD (cstP (.int 1)) (callP F_l_pull (consP (varP 0) (consP (cstP (.int 3)) nilP)))) (consP (binP ixD (callP F_l_still (consP (varP 0) (consP (varP 6) (consP (cstP (.int 0)) nilP)))) (cstP (.int 0))) nilP)))) nilP)))) nxP)
    (sqP (asP (.tup [7, 6, 3]) (callP F_l_plain (consP (varP 0) (consP (varP 6) (consP (slP (varP 2) (soP (varP 4)) noP) (consP (varP 3) nilP))))))
    (rtP (tupP (consP (binP addD (varP 5) (varP 7)) (consP (varP 6) nilP)))))))))
def F_l_body : FDen := gd 4 (runD (d_l_body) N_l_body.length)
abbrev s_l_all_steps : Stmt := (topS 48)
abbrev N_l_all_steps : List Str := ["_law_bag_here", "_law_names_here", "_law_fresh", "_law_steps", "_law_ends_here", "_law_some", "_law_inner"]
theorem sc_l_all_steps : FnScope N_l_all_steps ["_law_bag_here", "_law_names_here", "_law_fresh"] (defScope s_l_all_steps) := ⟨rfl, rfl, rfl, by decide +kernel, rfl, by decide +kernel, by decide +kernel⟩
def d_l_all_steps : SDen :=
    (sqP (asP (.tup [3, 4]) (callP F_l_body (consP (varP 0) (consP (varP 1) (consP (varP 2) (consP (cstP (.int 9)) nilP))))))
    (sqP (asP (.one 5) (binP ixD (callP F_l_still (consP (varP 0) (consP (varP 4) (consP (cstP (.int 9)) nilP)))) (cstP (.int 0))))
    (sqP (asP (.one 6) (tupP (consP (tupP (consP (cstP (.str "repeat")) (consP (binP addD (cstP (.int 1)) (callP F_l_pull (consP (varP 0) (consP (cstP (.int 4)) nilP)))) (consP (binP addD (varP 5) (tupP (consP (tupP (consP (cstP (.str "use")) (consP (callP F_l_any (consP (varP 0) (consP (lstP (consP (cstP (.str "a")) (consP (cstP (.str "zyxwvu")) (consP (cstP (.str "use")) nilP)))) nilP))) nilP))) nilP))) nilP)))) nilP)))
    (sqP (asP (.one 3) (binP addD (varP 3) (ifP (tstP (binP eqD (callP F_l_pull (consP (varP 0) (consP (cstP (.int 2)) nilP))) (cstP (.int 0)))) (tupP (consP (tupP (consP (cstP (.str "if")) (consP (callP F_l_test (consP (varP 0) (consP (varP 4) (consP (cstP (.int 9)) nilP)))) (consP (varP 6) (consP (tupP nilP) nilP))))) nilP)) (tupP nilP))))
    (rtP (binP addD (varP 3) (ifP (tstP (binP eqD (callP F_l_pull (consP (varP 0) (consP (cstP (.int 2)) nilP))) (cstP (.int 0)))) (tupP (consP (tupP (consP (cstP (.str "if")) (consP (callP F_l_test (consP (varP 0) (consP (varP 4) (consP (cstP (.int 9)) nilP)))) (consP (tupP nilP) (consP (binP addD (varP 6) (varP 5)) nilP))))) nilP)) (tupP nilP))))))))
def F_l_all_steps : FDen := gd 3 (runD (d_l_all_steps) N_l_all_steps.length)
abbrev s_l_test_words : Stmt := (topS 45)
abbrev N_l_test_words : List Str := ["_law_test_here"]
theorem sc_l_test_words : FnScope N_l_test_words ["_law_test_here"] (defScope s_l_test_words) := ⟨rfl, rfl, rfl, by decide +kernel, rfl, by decide +kernel, by decide +kernel⟩
def d_l_test_words : SDen :=
    (sqP (ifP (tstP (binP eqD (binP ixD (varP 0) (cstP (.int 0))) (cstP (.str "whole")))) (rtP (lstP (consP (cstP (.str "whole")) nilP))) nxP)
    (rtP (binP addD (lstP (consP (binP ixD (varP 0) (cstP (.int 0))) (consP (bltP str2F (consP (binP ixD (varP 0) (cstP (.int 2))) nilP)) nilP))) (bltP listF (consP (binP ixD (varP 0) (cstP (.int 1))) nilP)))))
def F_l_test_words : FDen := gd 1 (runD (d_l_test_words) N_l_test_words.length)
abbrev s_l_step_words : Stmt := (topS 46)
abbrev N_l_step_words : List Str := ["_law_step_here", "_law_word", "_law_found", "_law_base"]
theorem sc_l_step_words : FnScope N_l_step_words ["_law_step_here"] (defScope s_l_step_words) := ⟨rfl, rfl, rfl, by decide +kernel, rfl, by decide +kernel, by decide +kernel⟩
def d_l_step_words (F : FDen) : SDen :=
    (sqP (asP (.one 1) (binP ixD (varP 0) (cstP (.int 0))))
    (sqP (ifP (tstP (binP eqD (varP 1) (cstP (.str "if")))) (rtP (binP addD (binP addD (binP addD (binP addD (binP addD (binP addD (lstP (consP (cstP (.str "if")) nilP)) (callP F_l_test_words (consP (binP ixD (varP 0) (cstP (.int 1))) nilP))) (lstP (consP (cstP (.str "(")) nilP))) (callP F (consP (binP ixD (varP 0) (cstP (.int 2))) nilP))) (lstP (consP (cstP (.str ")")) (consP (cstP (.str "else")) (consP (cstP (.str "(")) nilP))))) (callP F (consP (binP ixD (varP 0) (cstP (.int 3))) nilP))) (lstP (consP (cstP (.str ")")) nilP)))) nxP)
    (sqP (ifP (tstP (binP eqD (varP 1) (cstP (.str "repeat")))) (rtP (binP addD (binP addD (lstP (consP (cstP (.str "repeat")) (consP (bltP str2F (consP (binP ixD (varP 0) (cstP (.int 1))) nilP)) (consP (cstP (.str "(")) nilP)))) (callP F (consP (binP ixD (varP 0) (cstP (.int 2))) nilP))) (lstP (consP (cstP (.str ")")) nilP)))) nxP)
    (sqP (ifP (tstP (binP eqD (varP 1) (cstP (.str "extend")))) (rtP (binP addD (lstP (consP (cstP (.str "extend")) (consP (binP ixD (varP 0) (cstP (.int 1))) nilP))) (bltP listF (consP (binP ixD (varP 0) (cstP (.int 2))) nilP)))) nxP)
    (sqP (ifP (tstP (binP eqD (varP 1) (cstP (.str "truncate")))) (rtP (binP addD (lstP (consP (cstP (.str "truncate")) nilP)) (bltP listF (consP (binP ixD (varP 0) (cstP (.int 1))) nilP)))) nxP)
    (sqP (ifP (tstP (binP eqD (varP 1) (cstP (.str "unite")))) (sqP (asP (.one 2) (binP addD (lstP (consP (cstP (.str "unite")) nilP)) (bltP listF (consP (binP ixD (binP ixD (varP 0) (cstP (.int 1))) (cstP (.int 0))) nilP))))
    (sqP (foP (itP (slP (binP ixD (varP 0) (cstP (.int 1))) (soP (cstP (.int 1))) noP)) (.one 3) (asP (.one 2) (binP addD (binP addD (varP 2) (lstP (consP (cstP (.str ",")) nilP))) (bltP listF (consP (varP 3) nilP)))))
    (rtP (varP 2)))) nxP)
    (rtP (bltP listF (consP (varP 0) nilP)))))))))
def F_l_step_words (F : FDen) : FDen := gd 1 (runD (d_l_step_words F) N_l_step_words.length)
abbrev s_l_words : Stmt := (topS 44)
abbrev N_l_words : List Str := ["_law_steps", "_law_found", "_law_step_here"]
theorem sc_l_words : FnScope N_l_words ["_law_steps"] (defScope s_l_words) := ⟨rfl, rfl, rfl, by decide +kernel, rfl, by decide +kernel, by decide +kernel⟩
def d_l_words (F : FDen) : SDen :=
    (sqP (asP (.one 1) (lstP nilP))
    (sqP (foP (itP (varP 0)) (.one 2) (asP (.one 1) (binP addD (binP addD (varP 1) (ifP (tstP (binP neD (varP 1) (lstP nilP))) (lstP (consP (cstP (.str ";")) nilP)) (lstP nilP))) (callP (F_l_step_words F) (consP (varP 2) nilP)))))
    (rtP (varP 1))))
def F_l_words : Nat → FDen
  | 0 => fun _ _ => none
  | n + 1 => gd 1 (runD (d_l_words (F_l_words n)) N_l_words.length)
abbrev s_l_text : Stmt := (topS 47)
abbrev N_l_text : List Str := ["_law_steps"]
theorem sc_l_text : FnScope N_l_text ["_law_steps"] (defScope s_l_text) := ⟨rfl, rfl, rfl, by decide +kernel, rfl, by decide +kernel, by decide +kernel⟩
def d_l_text : SDen :=
    (rtP (binP joinF (cstP (.str " ")) (callP (F_l_words 8) (consP (varP 0) nilP))))
def F_l_text : FDen := gd 1 (runD (d_l_text) N_l_text.length)
abbrev s_l_same : Stmt := (topS 33)
abbrev N_l_same : List Str := ["_law_found", "_law_due", "_law_one", "_law_two"]
theorem sc_l_same : FnScope N_l_same ["_law_found", "_law_due"] (defScope s_l_same) := ⟨rfl, rfl, rfl, by decide +kernel, rfl, by decide +kernel, by decide +kernel⟩
def d_l_same (F : FDen) : SDen :=
    (sqP (ifP (truP (isisP [.lst, .tup] (varP 1))) (sqP (ifP (orT (tstP (binP neD (isiP .lst (varP 0)) (isiP .lst (varP 1)))) (tstP (binP neD (isiP .tup (varP 0)) (isiP .tup (varP 1))))) (rtP (cstP (.bl false))) nxP)
    (rtP (andV (binP eqD (bltP lenF (consP (varP 0) nilP)) (bltP lenF (consP (varP 1) nilP))) (bltP allF (consP (lcP (zipP (consP (varP 0) (consP (varP 1) nilP))) (.tup [2, 3]) yesT (callP F (consP (varP 2) (consP (varP 3) nilP))) [2, 3]) nilP))))) nxP)
    (sqP (ifP (orT (tstP (isNP (varP 1))) (tstP (isNP (varP 0)))) (rtP (andV (isNP (varP 1)) (isNP (varP 0)))) nxP)
    (sqP (ifP (orT (tstP (binP neD (isiP .bl (varP 0)) (isiP .bl (varP 1)))) (tstP (binP neD (isiP .int (varP 0)) (isiP .int (varP 1))))) (rtP (cstP (.bl false))) nxP)
    (rtP (andV (binP eqD (isiP .str (varP 0)) (isiP .str (varP 1))) (binP eqD (varP 0) (varP 1)))))))
def F_l_same : Nat → FDen
  | 0 => fun _ _ => none
  | n + 1 => gd 2 (runD (d_l_same (F_l_same n)) N_l_same.length)
abbrev s_word : Stmt := (topS 18)
abbrev N_word : List Str := ["words", "at"]
theorem sc_word : FnScope N_word ["words", "at"] (defScope s_word) := ⟨rfl, rfl, rfl, by decide +kernel, rfl, by decide +kernel, by decide +kernel⟩
def d_word : SDen :=
    (rtP (ifP (tstP (binP ltD (varP 1) (bltP lenF (consP (varP 0) nilP)))) (binP ixD (varP 0) (varP 1)) (cstP (.str ""))))
def F_word : FDen := gd 2 (runD (d_word) N_word.length)
abbrev s_is_word : Stmt := (topS 6)
abbrev N_is_word : List Str := ["value", "most", "sign"]
theorem sc_is_word : FnScope N_is_word ["value", "most"] (defScope s_is_word) := ⟨rfl, rfl, rfl, by decide +kernel, rfl, by decide +kernel, by decide +kernel⟩
def d_is_word : SDen :=
    (rtP (andV (isiP .str (varP 0)) (andV (chP leD leD (cstP (.int 1)) (bltP lenF (consP (varP 0) nilP)) (varP 1)) (bltP allF (consP (lcP (itP (varP 0)) (.one 2) yesT (chP leD leD (cstP (.str "a")) (varP 2) (cstP (.str "z"))) [2]) nilP)))))
def F_is_word : FDen := gd 2 (runD (d_is_word) N_is_word.length)
abbrev s_is_name : Stmt := (topS 4)
abbrev N_is_name : List Str := ["value"]
theorem sc_is_name : FnScope N_is_name ["value"] (defScope s_is_name) := ⟨rfl, rfl, rfl, by decide +kernel, rfl, by decide +kernel, by decide +kernel⟩
def d_is_name : SDen :=
    (rtP (callP F_is_word (consP (varP 0) (consP (cstP (.int 4)) nilP))))
def F_is_name : FDen := gd 1 (runD (d_is_name) N_is_name.length)
abbrev s_read_name : Stmt := (topS 24)
abbrev N_read_name : List Str := ["words", "at"]
theorem sc_read_name : FnScope N_read_name ["words", "at"] (defScope s_read_name) := ⟨rfl, rfl, rfl, by decide +kernel, rfl, by decide +kernel, by decide +kernel⟩
def d_read_name : SDen :=
    (sqP (ifP (notT (truP (callP F_is_name (consP (callP F_word (consP (varP 0) (consP (varP 1) nilP))) nilP)))) ngP nxP)
    (rtP (binP ixD (varP 0) (varP 1))))
def F_read_name : FDen := gd 2 (runD (d_read_name) N_read_name.length)
abbrev s_read_group : Stmt := (topS 27)
abbrev N_read_group : List Str := ["words", "at", "start"]
theorem sc_read_group : FnScope N_read_group ["words", "at"] (defScope s_read_group) := ⟨rfl, rfl, rfl, by decide +kernel, rfl, by decide +kernel, by decide +kernel⟩
def d_read_group : SDen :=
    (sqP (asP (.one 2) (varP 1))
    (sqP (whP (andT (truP (callP F_is_name (consP (callP F_word (consP (varP 0) (consP (varP 1) nilP))) nilP))) (orT (tstP (binP eqD (varP 1) (varP 2))) (tstP (binP ltD (binP ixD (varP 0) (binP subD (varP 1) (cstP (.int 1)))) (binP ixD (varP 0) (varP 1)))))) (asP (.one 1) (binP addD (varP 1) (cstP (.int 1)))))
    (rtP (tupP (consP (bltP tupleF (consP (slP (varP 0) (soP (varP 2)) (soP (varP 1))) nilP)) (consP (varP 1) nilP))))))
def F_read_group : FDen := gd 2 (runD (d_read_group) N_read_group.length)
abbrev s_read_bases : Stmt := (topS 28)
abbrev N_read_bases : List Str := ["words", "at", "group", "bases"]
theorem sc_read_bases : FnScope N_read_bases ["words", "at"] (defScope s_read_bases) := ⟨rfl, rfl, rfl, by decide +kernel, rfl, by decide +kernel, by decide +kernel⟩
def d_read_bases : SDen :=
    (sqP (asP (.tup [2, 1]) (callP F_read_group (consP (varP 0) (consP (varP 1) nilP))))
    (sqP (asP (.one 3) (tupP (consP (varP 2) nilP)))
    (sqP (whP (tstP (binP eqD (callP F_word (consP (varP 0) (consP (varP 1) nilP))) (cstP (.str ",")))) (sqP (asP (.tup [2, 1]) (callP F_read_group (consP (varP 0) (consP (binP addD (varP 1) (cstP (.int 1))) nilP))))
    (asP (.one 3) (binP addD (varP 3) (tupP (consP (varP 2) nilP))))))
    (rtP (tupP (consP (varP 3) (consP (varP 1) nilP)))))))
def F_read_bases : FDen := gd 2 (runD (d_read_bases) N_read_bases.length)
abbrev s_read_digit : Stmt := (topS 26)
abbrev N_read_digit : List Str := ["words", "at", "digits"]
theorem sc_read_digit : FnScope N_read_digit ["words", "at", "digits"] (defScope s_read_digit) := ⟨rfl, rfl, rfl, by decide +kernel, rfl, by decide +kernel, by decide +kernel⟩
def d_read_digit : SDen :=
    (sqP (ifP (tstP (binP notInD (callP F_word (consP (varP 0) (consP (varP 1) nilP))) (varP 2))) ngP nxP)
    (rtP (bltP int3F (consP (binP ixD (varP 0) (varP 1)) nilP))))
def F_read_digit : FDen := gd 3 (runD (d_read_digit) N_read_digit.length)
abbrev s_read_test : Stmt := (topS 23)
abbrev N_read_test : List Str := ["words", "at", "word", "rank", "group", "name"]
theorem sc_read_test : FnScope N_read_test ["words", "at"] (defScope s_read_test) := ⟨rfl, rfl, rfl, by decide +kernel, rfl, by decide +kernel, by decide +kernel⟩
def d_read_test : SDen :=
    (sqP (asP (.one 2) (callP F_word (consP (varP 0) (consP (varP 1) nilP))))
    (sqP (ifP (tstP (binP eqD (varP 2) (cstP (.str "whole")))) (rtP (tupP (consP (tupP (consP (varP 2) nilP)) (consP (binP addD (varP 1) (cstP (.int 1))) nilP)))) nxP)
    (sqP (ifP (tstP (binP eqD (varP 2) (cstP (.str "rank")))) (sqP (asP (.one 3) (callP F_read_digit (consP (varP 0) (consP (binP addD (varP 1) (cstP (.int 1))) (consP (cstP (.tup [.str "0", .str "1", .str "2", .str "3", .str "4", .str "5", .str "6"])) nilP)))))
    (sqP (asP (.tup [4, 1]) (callP F_read_group (consP (varP 0) (consP (binP addD (varP 1) (cstP (.int 2))) nilP))))
    (rtP (tupP (consP (tupP (consP (varP 2) (consP (varP 4) (consP (varP 3) nilP)))) (consP (varP 1) nilP)))))) nxP)
    (sqP (ifP (tstP (binP eqD (varP 2) (cstP (.str "spans")))) (sqP (asP (.one 5) (callP F_read_name (consP (varP 0) (consP (binP addD (varP 1) (cstP (.int 1))) nilP))))
    (sqP (asP (.tup [4, 1]) (callP F_read_group (consP (varP 0) (consP (binP addD (varP 1) (cstP (.int 2))) nilP))))
    (rtP (tupP (consP (tupP (consP (varP 2) (consP (varP 4) (consP (varP 5) nilP)))) (consP (varP 1) nilP)))))) nxP)
    ngP))))
def F_read_test : FDen := gd 2 (runD (d_read_test) N_read_test.length)
abbrev s_read_brackets : Stmt := (topS 22)
abbrev N_read_brackets : List Str := ["words", "at", "depth", "steps"]
theorem sc_read_brackets : FnScope N_read_brackets ["words", "at", "depth"] (defScope s_read_brackets) := ⟨rfl, rfl, rfl, by decide +kernel, rfl, by decide +kernel, by decide +kernel⟩
def d_read_brackets (F : FDen) : SDen :=
    (sqP (ifP (orT (tstP (binP neD (callP F_word (consP (varP 0) (consP (varP 1) nilP))) (cstP (.str "(")))) (tstP (binP eqD (varP 2) (cstP (.int 20))))) ngP nxP)
    (sqP (parP 3 1 (consP (tupP nilP) (consP (binP addD (varP 1) (cstP (.int 1))) nilP)))
    (sqP (ifP (tstP (binP neD (callP F_word (consP (varP 0) (consP (varP 1) nilP))) (cstP (.str ")")))) (asP (.tup [3, 1]) (callP F (consP (varP 0) (consP (varP 1) (consP (binP addD (varP 2) (cstP (.int 1))) nilP))))) nxP)
    (sqP (ifP (tstP (binP neD (callP F_word (consP (varP 0) (consP (varP 1) nilP))) (cstP (.str ")")))) ngP nxP)
    (rtP (tupP (consP (varP 3) (consP (binP addD (varP 1) (cstP (.int 1))) nilP))))))))
def F_read_brackets (F : FDen) : FDen := gd 3 (runD (d_read_brackets F) N_read_brackets.length)
abbrev s_is_piece : Stmt := (topS 5)
abbrev N_is_piece : List Str := ["value"]
theorem sc_is_piece : FnScope N_is_piece ["value"] (defScope s_is_piece) := ⟨rfl, rfl, rfl, by decide +kernel, rfl, by decide +kernel, by decide +kernel⟩
def d_is_piece : SDen :=
    (rtP (callP F_is_word (consP (varP 0) (consP (cstP (.int 6)) nilP))))
def F_is_piece : FDen := gd 1 (runD (d_is_piece) N_is_piece.length)
abbrev s_read_piece : Stmt := (topS 25)
abbrev N_read_piece : List Str := ["words", "at"]
theorem sc_read_piece : FnScope N_read_piece ["words", "at"] (defScope s_read_piece) := ⟨rfl, rfl, rfl, by decide +kernel, rfl, by decide +kernel, by decide +kernel⟩
def d_read_piece : SDen :=
    (sqP (ifP (notT (truP (callP F_is_piece (consP (callP F_word (consP (varP 0) (consP (varP 1) nilP))) nilP)))) ngP nxP)
    (rtP (binP ixD (varP 0) (varP 1))))
def F_read_piece : FDen := gd 2 (runD (d_read_piece) N_read_piece.length)
abbrev s_read_compound : Stmt := (topS 21)
abbrev N_read_compound : List Str := ["words", "at", "depth", "word", "test", "first", "second", "times", "steps"]
theorem sc_read_compound : FnScope N_read_compound ["words", "at", "depth"] (defScope s_read_compound) := ⟨rfl, rfl, rfl, by decide +kernel, rfl, by decide +kernel, by decide +kernel⟩
def d_read_compound (F : FDen) : SDen :=
    (sqP (asP (.one 3) (callP F_word (consP (varP 0) (consP (varP 1) nilP))))
    (sqP (ifP (tstP (binP eqD (varP 3) (cstP (.str "if")))) (sqP (asP (.tup [4, 1]) (callP F_read_test (consP (varP 0) (consP (binP addD (varP 1) (cstP (.int 1))) nilP))))
    (sqP (asP (.tup [5, 1]) (callP (F_read_brackets F) (consP (varP 0) (consP (varP 1) (consP (varP 2) nilP)))))
    (sqP (ifP (tstP (binP neD (callP F_word (consP (varP 0) (consP (varP 1) nilP))) (cstP (.str "else")))) ngP nxP)
    (sqP (asP (.tup [6, 1]) (callP (F_read_brackets F) (consP (varP 0) (consP (binP addD (varP 1) (cstP (.int 1))) (consP (varP 2) nilP)))))
    (rtP (tupP (consP (tupP (consP (varP 3) (consP (varP 4) (consP (varP 5) (consP (varP 6) nilP))))) (consP (varP 1) nilP)))))))) nxP)
    (sqP (ifP (tstP (binP eqD (varP 3) (cstP (.str "repeat")))) (sqP (asP (.one 7) (callP F_read_digit (consP (varP 0) (consP (binP addD (varP 1) (cstP (.int 1))) (consP (cstP (.tup [.str "1", .str "2", .str "3", .str "4"])) nilP)))))
    (sqP (asP (.tup [8, 1]) (callP (F_read_brackets F) (consP (varP 0) (consP (binP addD (varP 1) (cstP (.int 2))) (consP (varP 2) nilP)))))
    (rtP (tupP (consP (tupP (consP (varP 3) (consP (varP 7) (consP (varP 8) nilP)))) (consP (varP 1) nilP)))))) nxP)
    (sqP (ifP (tstP (binP eqD (varP 3) (cstP (.str "use")))) (rtP (tupP (consP (tupP (consP (varP 3) (consP (callP F_read_piece (consP (varP 0) (consP (binP addD (varP 1) (cstP (.int 1))) nilP))) nilP))) (consP (binP addD (varP 1) (cstP (.int 2))) nilP)))) nxP)
    ngP))))
def F_read_compound (F : FDen) : FDen := gd 3 (runD (d_read_compound F) N_read_compound.length)
abbrev s_read_step : Stmt := (topS 20)
abbrev N_read_step : List Str := ["words", "at", "depth", "word", "name", "group", "bases"]
theorem sc_read_step : FnScope N_read_step ["words", "at", "depth"] (defScope s_read_step) := ⟨rfl, rfl, rfl, by decide +kernel, rfl, by decide +kernel, by decide +kernel⟩
def d_read_step (F : FDen) : SDen :=
    (sqP (asP (.one 3) (callP F_word (consP (varP 0) (consP (varP 1) nilP))))
    (sqP (ifP (tstP (binP inD (varP 3) (tupP (consP (cstP (.str "dual")) (consP (cstP (.str "cut")) nilP))))) (rtP (tupP (consP (tupP (consP (varP 3) nilP)) (consP (binP addD (varP 1) (cstP (.int 1))) nilP)))) nxP)
    (sqP (ifP (tstP (binP inD (varP 3) (tupP (consP (cstP (.str "delete")) (consP (cstP (.str "contract")) (consP (cstP (.str "top")) nilP)))))) (rtP (tupP (consP (tupP (consP (varP 3) (consP (callP F_read_name (consP (varP 0) (consP (binP addD (varP 1) (cstP (.int 1))) nilP))) nilP))) (consP (binP addD (varP 1) (cstP (.int 2))) nilP)))) nxP)
    (sqP (ifP (tstP (binP eqD (varP 3) (cstP (.str "rename")))) (rtP (tupP (consP (tupP (consP (varP 3) (consP (callP F_read_name (consP (varP 0) (consP (binP addD (varP 1) (cstP (.int 1))) nilP))) (consP (callP F_read_name (consP (varP 0) (consP (binP addD (varP 1) (cstP (.int 2))) nilP))) nilP)))) (consP (binP addD (varP 1) (cstP (.int 3))) nilP)))) nxP)
    (sqP (ifP (tstP (binP eqD (varP 3) (cstP (.str "extend")))) (sqP (asP (.one 4) (callP F_read_name (consP (varP 0) (consP (binP addD (varP 1) (cstP (.int 1))) nilP))))
    (sqP (asP (.tup [5, 1]) (callP F_read_group (consP (varP 0) (consP (binP addD (varP 1) (cstP (.int 2))) nilP))))
    (rtP (tupP (consP (tupP (consP (varP 3) (consP (varP 4) (consP (varP 5) nilP)))) (consP (varP 1) nilP)))))) nxP)
    (sqP (ifP (tstP (binP eqD (varP 3) (cstP (.str "truncate")))) (sqP (asP (.tup [5, 1]) (callP F_read_group (consP (varP 0) (consP (binP addD (varP 1) (cstP (.int 1))) nilP))))
    (rtP (tupP (consP (tupP (consP (varP 3) (consP (varP 5) nilP))) (consP (varP 1) nilP))))) nxP)
    (sqP (ifP (tstP (binP eqD (varP 3) (cstP (.str "unite")))) (sqP (asP (.tup [6, 1]) (callP F_read_bases (consP (varP 0) (consP (binP addD (varP 1) (cstP (.int 1))) nilP))))
    (rtP (tupP (consP (tupP (consP (varP 3) (consP (varP 6) nilP))) (consP (varP 1) nilP))))) nxP)
    (rtP (callP (F_read_compound F) (consP (varP 0) (consP (varP 1) (consP (varP 2) nilP))))))))))))
def F_read_step (F : FDen) : FDen := gd 3 (runD (d_read_step F) N_read_step.length)
abbrev s_read_some : Stmt := (topS 19)
abbrev N_read_some : List Str := ["words", "at", "depth", "step", "steps"]
theorem sc_read_some : FnScope N_read_some ["words", "at", "depth"] (defScope s_read_some) := ⟨rfl, rfl, rfl, by decide +kernel, rfl, by decide +kernel, by decide +kernel⟩
def d_read_some (F : FDen) : SDen :=
    (sqP (asP (.tup [3, 1]) (callP (F_read_step F) (consP (varP 0) (consP (varP 1) (consP (varP 2) nilP)))))
    (sqP (asP (.one 4) (tupP (consP (varP 3) nilP)))
    (sqP (whP (tstP (binP eqD (callP F_word (consP (varP 0) (consP (varP 1) nilP))) (cstP (.str ";")))) (sqP (asP (.tup [3, 1]) (callP (F_read_step F) (consP (varP 0) (consP (binP addD (varP 1) (cstP (.int 1))) (consP (varP 2) nilP)))))
    (asP (.one 4) (binP addD (varP 4) (tupP (consP (varP 3) nilP))))))
    (rtP (tupP (consP (varP 4) (consP (varP 1) nilP)))))))
def F_read_some : Nat → FDen
  | 0 => fun _ _ => none
  | n + 1 => gd 3 (runD (d_read_some (F_read_some n)) N_read_some.length)
abbrev s_read_steps : Stmt := (topS 12)
abbrev N_read_steps : List Str := ["text", "words", "steps", "at"]
theorem sc_read_steps : FnScope N_read_steps ["text"] (defScope s_read_steps) := ⟨rfl, rfl, rfl, by decide +kernel, rfl, by decide +kernel, by decide +kernel⟩
def d_read_steps : SDen :=
    (sqP (ifP (notT (truP (isiP .str (varP 0)))) ngP nxP)
    (sqP (ifP (tstP (binP eqD (varP 0) (cstP (.str "")))) (rtP (tupP nilP)) nxP)
    (sqP (asP (.one 1) (splP " " (varP 0)))
    (sqP (asP (.tup [2, 3]) (callP (F_read_some 24) (consP (varP 1) (consP (cstP (.int 0)) (consP (cstP (.int 0)) nilP)))))
    (sqP (ifP (tstP (binP ltD (varP 3) (bltP lenF (consP (varP 1) nilP)))) ngP nxP)
    (rtP (varP 2)))))))
def F_read_steps : FDen := gd 1 (runD (d_read_steps) N_read_steps.length)
abbrev s_words_of_bases : Stmt := (topS 15)
abbrev N_words_of_bases : List Str := ["bases", "words", "at", "group"]
theorem sc_words_of_bases : FnScope N_words_of_bases ["bases"] (defScope s_words_of_bases) := ⟨rfl, rfl, rfl, by decide +kernel, rfl, by decide +kernel, by decide +kernel⟩
def d_words_of_bases : SDen :=
    (sqP (asP (.one 1) (lstP nilP))
    (sqP (foP (enu2P (consP (varP 0) nilP)) (.tup [2, 3]) (sqP (ifP (tstP (binP gtD (varP 2) (cstP (.int 0)))) (asP (.one 1) (binP addD (varP 1) (lstP (consP (cstP (.str ",")) nilP)))) nxP)
    (asP (.one 1) (binP addD (varP 1) (bltP listF (consP (varP 3) nilP))))))
    (rtP (varP 1))))
def F_words_of_bases : FDen := gd 1 (runD (d_words_of_bases) N_words_of_bases.length)
abbrev s_in_brackets : Stmt := (topS 17)
abbrev N_in_brackets : List Str := ["steps"]
theorem sc_in_brackets : FnScope N_in_brackets ["steps"] (defScope s_in_brackets) := ⟨rfl, rfl, rfl, by decide +kernel, rfl, by decide +kernel, by decide +kernel⟩
def d_in_brackets (F : FDen) : SDen :=
    (rtP (binP addD (binP addD (lstP (consP (cstP (.str "(")) nilP)) (callP F (consP (varP 0) nilP))) (lstP (consP (cstP (.str ")")) nilP))))
def F_in_brackets (F : FDen) : FDen := gd 1 (runD (d_in_brackets F) N_in_brackets.length)
abbrev s_words_of_test : Stmt := (topS 16)
abbrev N_words_of_test : List Str := ["test"]
theorem sc_words_of_test : FnScope N_words_of_test ["test"] (defScope s_words_of_test) := ⟨rfl, rfl, rfl, by decide +kernel, rfl, by decide +kernel, by decide +kernel⟩
def d_words_of_test : SDen :=
    (sqP (ifP (tstP (binP eqD (binP ixD (varP 0) (cstP (.int 0))) (cstP (.str "rank")))) (rtP (binP addD (lstP (consP (cstP (.str "rank")) (consP (bltP str2F (consP (binP ixD (varP 0) (cstP (.int 2))) nilP)) nilP))) (bltP listF (consP (binP ixD (varP 0) (cstP (.int 1))) nilP)))) nxP)
    (sqP (ifP (tstP (binP eqD (binP ixD (varP 0) (cstP (.int 0))) (cstP (.str "spans")))) (rtP (binP addD (lstP (consP (cstP (.str "spans")) (consP (binP ixD (varP 0) (cstP (.int 2))) nilP))) (bltP listF (consP (binP ixD (varP 0) (cstP (.int 1))) nilP)))) nxP)
    (rtP (lstP (consP (cstP (.str "whole")) nilP)))))
def F_words_of_test : FDen := gd 1 (runD (d_words_of_test) N_words_of_test.length)
abbrev s_words_of_step : Stmt := (topS 14)
abbrev N_words_of_step : List Str := ["step", "first", "second"]
theorem sc_words_of_step : FnScope N_words_of_step ["step"] (defScope s_words_of_step) := ⟨rfl, rfl, rfl, by decide +kernel, rfl, by decide +kernel, by decide +kernel⟩
def d_words_of_step (F : FDen) : SDen :=
    (sqP (ifP (tstP (binP eqD (binP ixD (varP 0) (cstP (.int 0))) (cstP (.str "extend")))) (rtP (binP addD (lstP (consP (cstP (.str "extend")) (consP (binP ixD (varP 0) (cstP (.int 1))) nilP))) (bltP listF (consP (binP ixD (varP 0) (cstP (.int 2))) nilP)))) nxP)
    (sqP (ifP (tstP (binP eqD (binP ixD (varP 0) (cstP (.int 0))) (cstP (.str "truncate")))) (rtP (binP addD (lstP (consP (cstP (.str "truncate")) nilP)) (bltP listF (consP (binP ixD (varP 0) (cstP (.int 1))) nilP)))) nxP)
    (sqP (ifP (tstP (binP eqD (binP ixD (varP 0) (cstP (.int 0))) (cstP (.str "unite")))) (rtP (binP addD (lstP (consP (cstP (.str "unite")) nilP)) (callP F_words_of_bases (consP (binP ixD (varP 0) (cstP (.int 1))) nilP)))) nxP)
    (sqP (ifP (tstP (binP eqD (binP ixD (varP 0) (cstP (.int 0))) (cstP (.str "if")))) (sqP (parP 1 2 (consP (callP (F_in_brackets F) (consP (binP ixD (varP 0) (cstP (.int 2))) nilP)) (consP (callP (F_in_brackets F) (consP (binP ixD (varP 0) (cstP (.int 3))) nilP)) nilP)))
    (rtP (binP addD (binP addD (binP addD (binP addD (lstP (consP (cstP (.str "if")) nilP)) (callP F_words_of_test (consP (binP ixD (varP 0) (cstP (.int 1))) nilP))) (varP 1)) (lstP (consP (cstP (.str "else")) nilP))) (varP 2)))) nxP)
    (sqP (ifP (tstP (binP eqD (binP ixD (varP 0) (cstP (.int 0))) (cstP (.str "repeat")))) (rtP (binP addD (lstP (consP (cstP (.str "repeat")) (consP (bltP str2F (consP (binP ixD (varP 0) (cstP (.int 1))) nilP)) nilP))) (callP (F_in_brackets F) (consP (binP ixD (varP 0) (cstP (.int 2))) nilP)))) nxP)
    (rtP (bltP listF (consP (varP 0) nilP))))))))
def F_words_of_step (F : FDen) : FDen := gd 1 (runD (d_words_of_step F) N_words_of_step.length)
abbrev s_words_of_steps : Stmt := (topS 13)
abbrev N_words_of_steps : List Str := ["steps", "words", "at", "step"]
theorem sc_words_of_steps : FnScope N_words_of_steps ["steps"] (defScope s_words_of_steps) := ⟨rfl, rfl, rfl, by decide +kernel, rfl, by decide +kernel, by decide +kernel⟩
def d_words_of_steps (F : FDen) : SDen :=
    (sqP (asP (.one 1) (lstP nilP))
    (sqP (foP (enu2P (consP (varP 0) nilP)) (.tup [2, 3]) (sqP (ifP (tstP (binP gtD (varP 2) (cstP (.int 0)))) (asP (.one 1) (binP addD (varP 1) (lstP (consP (cstP (.str ";")) nilP)))) nxP)
    (asP (.one 1) (binP addD (varP 1) (callP (F_words_of_step F) (consP (varP 3) nilP))))))
    (rtP (varP 1))))
def F_words_of_steps : Nat → FDen
  | 0 => fun _ _ => none
  | n + 1 => gd 1 (runD (d_words_of_steps (F_words_of_steps n)) N_words_of_steps.length)
abbrev s_text_of : Stmt := (topS 11)
abbrev N_text_of : List Str := ["steps"]
theorem sc_text_of : FnScope N_text_of ["steps"] (defScope s_text_of) := ⟨rfl, rfl, rfl, by decide +kernel, rfl, by decide +kernel, by decide +kernel⟩
def d_text_of : SDen :=
    (rtP (binP joinF (cstP (.str " ")) (callP (F_words_of_steps 8) (consP (varP 0) nilP))))
def F_text_of : FDen := gd 1 (runD (d_text_of) N_text_of.length)
abbrev s_law : Stmt := (topS 49)
abbrev N_law : List Str := ["_law_script", "_law_bag_here", "_law_turn", "_law_deep", "_law_text_z", "_law_k", "_law_found", "_law_words_here", "_law_steps"]
theorem sc_law : FnScope N_law ["_law_script"] (defScope s_law) := ⟨rfl, rfl, rfl, by decide +kernel, rfl, by decide +kernel, by decide +kernel⟩
def d_law : SDen :=
    (sqP (asP (.one 1) (callP F_l_bag (consP (varP 0) nilP)))
    (sqP (foP (rng1P (consP (cstP (.int 4)) nilP)) (.one 2) (sqP (asP (.one 7) (callP F_l_mixed (consP (varP 1) (consP (callP F_l_names (consP (varP 1) (consP (cstP (.int 6)) nilP))) nilP))))
    (sqP (asP (.one 8) (callP F_l_all_steps (consP (varP 1) (consP (slP (varP 7) noP (soP (callP F_l_pull (consP (varP 1) (consP (cstP (.int 4)) nilP))))) (consP (slP (varP 7) (soP (cstP (.int 3))) (soP (binP addD (cstP (.int 3)) (callP F_l_pull (consP (varP 1) (consP (cstP (.int 4)) nilP)))))) nilP)))))
    (sqP (asP (.one 4) (callP F_l_text (consP (varP 8) nilP)))
    (sqP (ifP (notT (truP (callP (F_l_same 48) (consP (lstP (consP (callP F_read_steps (consP (varP 4) nilP)) (consP (callP (kwF 1 [0] F_read_steps) (consP (callP F_text_of (consP (varP 8) nilP)) nilP)) nilP))) (consP (lstP (consP (varP 8) (consP (varP 8) nilP))) nilP))))) (rtP (cstP (.bl false))) nxP)
    (ifP (tstP (binP neD (callP F_text_of (consP (callP F_read_steps (consP (varP 4) nilP)) nilP)) (varP 4))) (rtP (cstP (.bl false))) nxP))))))
    (sqP (asP (.tup [3, 4]) (tupP (consP (tupP nilP) (consP (cstP (.str "")) nilP))))
    (sqP (foP (rng1P (consP (cstP (.int 20)) nilP)) (.one 5) (parP 3 4 (consP (tupP (consP (tupP (consP (cstP (.str "repeat")) (consP (cstP (.int 1)) (consP (varP 3) nilP)))) nilP)) (consP (binP addD (binP addD (cstP (.str "repeat 1 ( ")) (ifP (tstP (binP neD (varP 4) (cstP (.str "")))) (binP addD (varP 4) (cstP (.str " "))) (cstP (.str "")))) (cstP (.str ")"))) nilP))))
    (sqP (ifP (notT (truP (callP (F_l_same 48) (consP (callP F_read_steps (consP (varP 4) nilP)) (consP (varP 3) nilP))))) (rtP (cstP (.bl false))) nxP)
    (sqP (asP (.one 6) (lstP (consP (callP F_read_steps (consP (cstP (.str "")) nilP)) (consP (callP F_read_steps (consP (cstP (.str "unite")) nilP)) (consP (callP F_read_steps (consP (cstP (.str "unite , a")) nilP)) (consP (callP F_read_steps (consP (cstP (.str "truncate cut ; use cut")) nilP)) (consP (callP F_read_steps (consP (cstP (.str "cut")) nilP)) nilP)))))))
    (rtP (callP (F_l_same 48) (consP (varP 6) (consP (lstP (consP (tupP nilP) (consP (tupP (consP (tupP (consP (cstP (.str "unite")) (consP (tupP (consP (tupP nilP) nilP)) nilP))) nilP)) (consP (tupP (consP (tupP (consP (cstP (.str "unite")) (consP (tupP (consP (tupP nilP) (consP (tupP (consP (cstP (.str "a")) nilP)) nilP))) nilP))) nilP)) (consP (tupP (consP (tupP (consP (cstP (.str "truncate")) (consP (tupP (consP (cstP (.str "cut")) nilP)) nilP))) (consP (tupP (consP (cstP (.str "use")) (consP (cstP (.str "cut")) nilP))) nilP))) (consP (tupP (consP (tupP (consP (cstP (.str "cut")) nilP)) nilP)) nilP)))))) nilP))))))))))
def F_law : FDen := gd 1 (runD (d_law) N_law.length)
structure Txt (K : PySem.W.Frag) (mg : Str → Option Value) (C : Nat → Addr) (f : Nat → Addr) (fd : Nat → FuncData) : Prop where
  F_l_bag : Fun K "_law_bag" "_law_bag" s_l_bag (f 0) (fd 0)
  b_l_bag : Binds K (fd 0) ["_law_script"] []
  g_l_bag : mg "_law_bag" = some (.ref (f 0))
  F_l_pull : Fun K "_law_pull" "_law_pull" s_l_pull (f 1) (fd 1)
  b_l_pull : Binds K (fd 1) ["_law_bag_here", "_law_many"] []
  g_l_pull : mg "_law_pull" = some (.ref (f 1))
  F_l_mixed : Fun K "_law_mixed" "_law_mixed" s_l_mixed (f 2) (fd 2)
  b_l_mixed : Binds K (fd 2) ["_law_bag_here", "_law_things"] []
  g_l_mixed : mg "_law_mixed" = some (.ref (f 2))
  F_l_any : Fun K "_law_any" "_law_any" s_l_any (f 3) (fd 3)
  b_l_any : Binds K (fd 3) ["_law_bag_here", "_law_things"] []
  g_l_any : mg "_law_any" = some (.ref (f 3))
  F_l_names : Fun K "_law_names" "_law_names" s_l_names (f 4) (fd 4)
  b_l_names : Binds K (fd 4) ["_law_bag_here", "_law_many"] []
  g_l_names : mg "_law_names" = some (.ref (f 4))
  F_l_group : Fun K "_law_group" "_law_group" s_l_group (f 5) (fd 5)
  b_l_group : Binds K (fd 5) ["_law_bag_here", "_law_names_here"] []
  g_l_group : mg "_law_group" = some (.ref (f 5))
  F_l_bases : Fun K "_law_bases" "_law_bases" s_l_bases (f 6) (fd 6)
  b_l_bases : Binds K (fd 6) ["_law_bag_here", "_law_group_here"] []
  g_l_bases : mg "_law_bases" = some (.ref (f 6))
  F_l_step : Fun K "_law_step" "_law_step" s_l_step (f 7) (fd 7)
  b_l_step : Binds K (fd 7) ["_law_bag_here", "_law_names_here", "_law_fresh", "_law_looks"] []
  g_l_step : mg "_law_step" = some (.ref (f 7))
  F_l_ends : Fun K "_law_ends" "_law_ends" s_l_ends (f 8) (fd 8)
  b_l_ends : Binds K (fd 8) ["_law_names_here", "_law_step_here"] []
  g_l_ends : mg "_law_ends" = some (.ref (f 8))
  F_l_plain : Fun K "_law_plain" "_law_plain" s_l_plain (f 9) (fd 9)
  b_l_plain : Binds K (fd 9) ["_law_bag_here", "_law_names_here", "_law_fresh", "_law_looks"] []
  g_l_plain : mg "_law_plain" = some (.ref (f 9))
  F_l_test : Fun K "_law_test" "_law_test" s_l_test (f 10) (fd 10)
  b_l_test : Binds K (fd 10) ["_law_bag_here", "_law_names_here", "_law_looks"] []
  g_l_test : mg "_law_test" = some (.ref (f 10))
  F_l_still : Fun K "_law_still" "_law_still" s_l_still (f 11) (fd 11)
  b_l_still : Binds K (fd 11) ["_law_bag_here", "_law_names_here", "_law_looks"] []
  g_l_still : mg "_law_still" = some (.ref (f 11))
  F_l_body : Fun K "_law_body" "_law_body" s_l_body (f 12) (fd 12)
  b_l_body : Binds K (fd 12) ["_law_bag_here", "_law_names_here", "_law_fresh", "_law_looks"] []
  g_l_body : mg "_law_body" = some (.ref (f 12))
  F_l_all_steps : Fun K "_law_all_steps" "_law_all_steps" s_l_all_steps (f 13) (fd 13)
  b_l_all_steps : Binds K (fd 13) ["_law_bag_here", "_law_names_here", "_law_fresh"] []
  g_l_all_steps : mg "_law_all_steps" = some (.ref (f 13))
  F_l_test_words : Fun K "_law_test_words" "_law_test_words" s_l_test_words (f 14) (fd 14)
  b_l_test_words : Binds K (fd 14) ["_law_test_here"] []
  g_l_test_words : mg "_law_test_words" = some (.ref (f 14))
  F_l_step_words : Fun K "_law_step_words" "_law_step_words" s_l_step_words (f 15) (fd 15)
  b_l_step_words : Binds K (fd 15) ["_law_step_here"] []
  g_l_step_words : mg "_law_step_words" = some (.ref (f 15))
  F_l_words : Fun K "_law_words" "_law_words" s_l_words (f 16) (fd 16)
  b_l_words : Binds K (fd 16) ["_law_steps"] []
  g_l_words : mg "_law_words" = some (.ref (f 16))
  F_l_text : Fun K "_law_text" "_law_text" s_l_text (f 17) (fd 17)
  b_l_text : Binds K (fd 17) ["_law_steps"] []
  g_l_text : mg "_law_text" = some (.ref (f 17))
  F_l_same : Fun K "_law_same" "_law_same" s_l_same (f 18) (fd 18)
  b_l_same : Binds K (fd 18) ["_law_found", "_law_due"] []
  g_l_same : mg "_law_same" = some (.ref (f 18))
  F_word : Fun K "_word" "_word" s_word (f 19) (fd 19)
  b_word : Binds K (fd 19) ["words", "at"] []
  g_word : mg "_word" = some (.ref (f 19))
  F_is_word : Fun K "_is_word" "_is_word" s_is_word (f 20) (fd 20)
  b_is_word : Binds K (fd 20) ["value", "most"] []
  g_is_word : mg "_is_word" = some (.ref (f 20))
  F_is_name : Fun K "is_name" "is_name" s_is_name (f 21) (fd 21)
  b_is_name : Binds K (fd 21) ["value"] []
  g_is_name : mg "is_name" = some (.ref (f 21))
  F_read_name : Fun K "_read_name" "_read_name" s_read_name (f 22) (fd 22)
  b_read_name : Binds K (fd 22) ["words", "at"] []
  g_read_name : mg "_read_name" = some (.ref (f 22))
  F_read_group : Fun K "_read_group" "_read_group" s_read_group (f 23) (fd 23)
  b_read_group : Binds K (fd 23) ["words", "at"] []
  g_read_group : mg "_read_group" = some (.ref (f 23))
  F_read_bases : Fun K "_read_bases" "_read_bases" s_read_bases (f 24) (fd 24)
  b_read_bases : Binds K (fd 24) ["words", "at"] []
  g_read_bases : mg "_read_bases" = some (.ref (f 24))
  F_read_digit : Fun K "_read_digit" "_read_digit" s_read_digit (f 25) (fd 25)
  b_read_digit : Binds K (fd 25) ["words", "at", "digits"] []
  g_read_digit : mg "_read_digit" = some (.ref (f 25))
  F_read_test : Fun K "_read_test" "_read_test" s_read_test (f 26) (fd 26)
  b_read_test : Binds K (fd 26) ["words", "at"] []
  g_read_test : mg "_read_test" = some (.ref (f 26))
  F_read_brackets : Fun K "_read_brackets" "_read_brackets" s_read_brackets (f 27) (fd 27)
  b_read_brackets : Binds K (fd 27) ["words", "at", "depth"] []
  g_read_brackets : mg "_read_brackets" = some (.ref (f 27))
  F_is_piece : Fun K "is_piece" "is_piece" s_is_piece (f 28) (fd 28)
  b_is_piece : Binds K (fd 28) ["value"] []
  g_is_piece : mg "is_piece" = some (.ref (f 28))
  F_read_piece : Fun K "_read_piece" "_read_piece" s_read_piece (f 29) (fd 29)
  b_read_piece : Binds K (fd 29) ["words", "at"] []
  g_read_piece : mg "_read_piece" = some (.ref (f 29))
  F_read_compound : Fun K "_read_compound" "_read_compound" s_read_compound (f 30) (fd 30)
  b_read_compound : Binds K (fd 30) ["words", "at", "depth"] []
  g_read_compound : mg "_read_compound" = some (.ref (f 30))
  F_read_step : Fun K "_read_step" "_read_step" s_read_step (f 31) (fd 31)
  b_read_step : Binds K (fd 31) ["words", "at", "depth"] []
  g_read_step : mg "_read_step" = some (.ref (f 31))
  F_read_some : Fun K "_read_some" "_read_some" s_read_some (f 32) (fd 32)
  b_read_some : Binds K (fd 32) ["words", "at", "depth"] []
  g_read_some : mg "_read_some" = some (.ref (f 32))
  F_read_steps : Fun K "read_steps" "read_steps" s_read_steps (f 33) (fd 33)
  b_read_steps : Binds K (fd 33) ["text"] []
  g_read_steps : mg "read_steps" = some (.ref (f 33))
  F_words_of_bases : Fun K "_words_of_bases" "_words_of_bases" s_words_of_bases (f 34) (fd 34)
  b_words_of_bases : Binds K (fd 34) ["bases"] []
  g_words_of_bases : mg "_words_of_bases" = some (.ref (f 34))
  F_in_brackets : Fun K "_in_brackets" "_in_brackets" s_in_brackets (f 35) (fd 35)
  b_in_brackets : Binds K (fd 35) ["steps"] []
  g_in_brackets : mg "_in_brackets" = some (.ref (f 35))
  F_words_of_test : Fun K "_words_of_test" "_words_of_test" s_words_of_test (f 36) (fd 36)
  b_words_of_test : Binds K (fd 36) ["test"] []
  g_words_of_test : mg "_words_of_test" = some (.ref (f 36))
  F_words_of_step : Fun K "_words_of_step" "_words_of_step" s_words_of_step (f 37) (fd 37)
  b_words_of_step : Binds K (fd 37) ["step"] []
  g_words_of_step : mg "_words_of_step" = some (.ref (f 37))
  F_words_of_steps : Fun K "_words_of_steps" "_words_of_steps" s_words_of_steps (f 38) (fd 38)
  b_words_of_steps : Binds K (fd 38) ["steps"] []
  g_words_of_steps : mg "_words_of_steps" = some (.ref (f 38))
  F_text_of : Fun K "text_of" "text_of" s_text_of (f 39) (fd 39)
  b_text_of : Binds K (fd 39) ["steps"] []
  g_text_of : mg "text_of" = some (.ref (f 39))
  F_law : Fun K "law" "law" s_law (f 40) (fd 40)
  b_law : Binds K (fd 40) ["_law_script"] []
  g_law : mg "law" = some (.ref (f 40))
  kb_read_steps_0 : KBn K (fd 33) ["text"] 0 ["text"] (fun _ ws => pick [0] ws) (fun _ zs => pick [0] zs)
  k_RANKS : ∃ a, mg "RANKS" = some (.ref a) ∧ WrT K a [.str "0", .str "1", .str "2", .str "3", .str "4", .str "5", .str "6"]
  k_MOST_OPEN : ∃ u, mg "MOST_OPEN" = some u ∧ RelV (V.int 20) u
  k_TIMES : ∃ a, mg "TIMES" = some (.ref a) ∧ WrT K a [.str "1", .str "2", .str "3", .str "4"]
  z_all : mg "all" = none
  z_bool : mg "bool" = none
  z_enumerate : mg "enumerate" = none
  z_int : mg "int" = none
  z_isinstance : mg "isinstance" = none
  z_len : mg "len" = none
  z_list : mg "list" = none
  z_range : mg "range" = none
  z_sorted : mg "sorted" = none
  z_str : mg "str" = none
  z_tuple : mg "tuple" = none
  z_zip : mg "zip" = none
section
variable {P : Program} {w : World} {K : PySem.W.Frag} {mg : Str → Option Value} {base : Heap} {C : Nat → Addr} {f : Nat → Addr} {fd : Nat → FuncData}
theorem ok_l_bag (T : Txt K mg C f fd) : FnOk P w K mg base (L2.CX P w) 1 (f 0) (fd 0) ["_law_script"] (spF K F_l_bag) := ok_bag 10038 T.F_l_bag sc_l_bag T.z_list T.z_len rfl rfl rfl rfl
theorem ok_l_pull (T : Txt K mg C f fd) : FnOk P w K mg base (L2.CX P w) 1 (f 1) (fd 1) ["_law_bag_here", "_law_many"] (spF K F_l_pull) :=
  fn_den d_l_pull T.F_l_pull sc_l_pull gd_len gd_run fun cdv A outer s H E hr hp ho =>
    (dss_cons (ds_if (dt_w (dw_and (dt_cmp (or_eq hr.units) (de_bagIx (i := 0) 2) de_int (nomark _)) (dw_and1 (dt_cmp or_lt (de_bagIx (i := 0) 1) (de_blt cr_len T.z_len PySem.boot_len (da_cons (de_bagIx (i := 0) 0) da_nil)) (nomark _))))) (dss_cons (ds_set (i := 3) sc_l_pull.nd rfl (by first | exact Or.inl rfl | exact Or.inr rfl) (de_ix (de_bagIx (i := 0) 0) (de_bagIx (i := 0) 1)))
      (dss_cons (ds_bagSet (i := 0) 1 (de_bin or_add (de_bagIx (i := 0) 1) de_int))
      (dss_one (ds_if (dt_cmp or_ge (de_var 3) (de_bin or_pow de_int de_int) (nomark _)) (dss_one (ds_bagSet (i := 0) 2 (de_var 3))) (dss_one (ds_bagSet (i := 0) 3 (de_bin or_mod (de_ty cr_int T.z_int (by decide +kernel) (da_cons (de_bin or_add (de_bin or_add (de_bin or_mul (de_bagIx (i := 0) 3) de_int) (de_bin or_mul (de_bin or_mod (de_ty cr_int T.z_int (by decide +kernel) (da_cons (de_var 3) da_nil)) de_int) de_int)) de_int) da_nil)) de_int))))))) dss_nil)
      (dss_cons (ds_if (dt_cmp or_gt (de_bagIx (i := 0) 2) de_int (nomark _)) (dss_cons (ds_set (i := 4) sc_l_pull.nd rfl (by first | exact Or.inl rfl | exact Or.inr rfl) (de_bin or_mod (de_ty cr_int T.z_int (by decide +kernel) (da_cons (de_bagIx (i := 0) 2) da_nil)) (de_var 1)))
      (dss_cons (ds_bagSet (i := 0) 2 (de_bin or_fdiv (de_bagIx (i := 0) 2) (de_var 1)))
      (dss_one (ds_ret (de_var 4))))) dss_nil)
      (dss_cons (ds_bagSet (i := 0) 4 (de_bin or_add (de_bagIx (i := 0) 4) de_int))
      (dss_cons (ds_set (i := 2) sc_l_pull.nd rfl (by first | exact Or.inl rfl | exact Or.inr rfl) (de_bagIx (i := 0) 3))
      (dss_cons (ds_bagSet (i := 0) 3 (de_bin or_mod (de_ty cr_int T.z_int (by decide +kernel) (da_cons (de_bin or_add (de_bin or_add (de_bin or_add (de_bin or_mul (de_bin or_mul (de_var 2) (de_var 2)) de_int) (de_bin or_mul (de_var 2) de_int)) (de_bin or_mul (de_bagIx (i := 0) 4) de_int)) de_int) da_nil)) de_int))
      (dss_one (ds_ret (de_bin or_mod (de_ty cr_int T.z_int (by decide +kernel) (da_cons (de_bin or_add (de_bin or_fdiv (de_bagIx (i := 0) 3) de_int) (de_bin or_mul (de_bin or_mod (de_ty cr_int T.z_int (by decide +kernel) (da_cons (de_bagIx (i := 0) 3) da_nil)) de_int) de_int)) da_nil)) (de_var 1)))))))))
theorem ok_l_mixed (T : Txt K mg C f fd) : FnOk P w K mg base (L2.CX P w) 2 (f 2) (fd 2) ["_law_bag_here", "_law_things"] (spF K F_l_mixed) :=
  fn_fz (F := G_l_mixed) (fn_den d_l_mixed T.F_l_mixed sc_l_mixed gd_len gd_run fun cdv A outer s H E hr hp ho =>
    (dss_cons (ds_set (i := 2) sc_l_mixed.nd rfl (by first | exact Or.inl rfl | exact Or.inr rfl) (de_newl da_nil))
      (dss_cons (ds_for (.one 3) ho rfl (di_seq (de_var 1)) (pg_name (i := 3) sc_l_mixed.nd rfl (by first | exact Or.inl rfl | exact Or.inr rfl)) (dss_one (ds_expr (de_insert (de_var 2) (da_cons (de_call' (ok_l_pull T) (hr.mono (by decide)) T.g_l_pull T.F_l_pull.kp T.b_l_pull hp (da_cons (de_var 0) (da_cons (de_bin or_add (de_lenL T.z_len (de_var 2)) de_int) da_nil))) (da_cons (de_var 3) da_nil))))))
      (dss_one (ds_ret (de_var 2))))))
theorem ok_l_any (T : Txt K mg C f fd) : FnOk P w K mg base (L2.CX P w) 2 (f 3) (fd 3) ["_law_bag_here", "_law_things"] (spF K F_l_any) :=
  fn_den d_l_any T.F_l_any sc_l_any gd_len gd_run fun cdv A outer s H E hr hp ho =>
    (dss_one (ds_ret (de_ix (de_var 1) (de_call' (ok_l_pull T) (hr.mono (by decide)) T.g_l_pull T.F_l_pull.kp T.b_l_pull hp (da_cons (de_var 0) (da_cons (de_blt cr_len T.z_len PySem.boot_len (da_cons (de_var 1) da_nil)) da_nil))))))
theorem ok_l_names (T : Txt K mg C f fd) : FnOk P w K mg base (L2.CX P w) 3 (f 4) (fd 4) ["_law_bag_here", "_law_many"] (spF K F_l_names) :=
  fn_den d_l_names T.F_l_names sc_l_names gd_len gd_run fun cdv A outer s H E hr hp ho =>
    (dss_cons (ds_set (i := 2) sc_l_names.nd rfl (by first | exact Or.inl rfl | exact Or.inr rfl) de_str)
      (dss_cons (ds_set (i := 3) sc_l_names.nd rfl (by first | exact Or.inl rfl | exact Or.inr rfl) (de_join de_str (de_lc (.one 6) [("_law_k", 6)] rfl sc_l_names.nd (by decide) (di_range1 T.z_range (da_cons (de_call' (ok_l_pull T) (hr.mono (by decide)) T.g_l_pull T.F_l_pull.kp T.b_l_pull hp (da_cons (de_var 0) (da_cons de_int da_nil))) da_nil)) (blkOk_by (N := N_l_names) (sc := defScope s_l_names) (by decide +kernel)) (fun _ _ _ _ _ => (pg_name (i := 6) sc_l_names.nd rfl (by first | exact Or.inl rfl | exact Or.inr rfl))) (fun _ _ _ _ _ => dts_nil) (fun _ _ _ _ _ => (de_call' (ok_l_any T) (hr.mono (by decide)) T.g_l_any T.F_l_any.kp T.b_l_any passL (da_cons (de_var 0) (da_cons (de_var 2) da_nil))))) (hstr := fun _ _ _ _ h => by cases h; exact ⟨_, rfl⟩)))
      (dss_cons (ds_asg (.tup [4, 5]) (de_tup (da_cons (de_call' (ok_l_pull T) (hr.mono (by decide)) T.g_l_pull T.F_l_pull.kp T.b_l_pull hp (da_cons (de_var 0) (da_cons (de_bin or_add (de_blt cr_len T.z_len PySem.boot_len (da_cons (de_var 3) da_nil)) de_int) da_nil))) (da_cons (de_call' (ok_l_pull T) (hr.mono (by decide)) T.g_l_pull T.F_l_pull.kp T.b_l_pull hp (da_cons (de_var 0) (da_cons de_int da_nil))) da_nil))) (pg_tup rfl (pgs_cons (pg_name (i := 4) sc_l_names.nd rfl (by first | exact Or.inl rfl | exact Or.inr rfl)) (pgs_cons (pg_name (i := 5) sc_l_names.nd rfl (by first | exact Or.inl rfl | exact Or.inr rfl)) pgs_nil))))
      (dss_one (ds_ret (de_lc (.one 6) [("_law_k", 6)] rfl sc_l_names.nd (by decide) (di_range1 T.z_range (da_cons (de_var 1) da_nil)) (blkOk_by (N := N_l_names) (sc := defScope s_l_names) (by decide +kernel)) (fun _ _ _ _ _ => (pg_name (i := 6) sc_l_names.nd rfl (by first | exact Or.inl rfl | exact Or.inr rfl))) (fun _ _ _ _ _ => dts_nil) (fun _ _ _ _ _ => (de_bin or_add (de_bin or_add (de_sl (de_var 3) do_no (do_so (de_var 4))) (de_ix (de_var 2) (de_bin or_mod (de_ty cr_int T.z_int (by decide +kernel) (da_cons (de_bin or_add (de_var 5) (de_bin or_mul de_int (de_var 6))) da_nil)) de_int))) (de_sl (de_var 3) (do_so (de_var 4)) do_no)))))))))
theorem ok_l_group (T : Txt K mg C f fd) : FnOk P w K mg base (L2.CX P w) 2 (f 5) (fd 5) ["_law_bag_here", "_law_names_here"] (spF K F_l_group) :=
  fn_den d_l_group T.F_l_group sc_l_group gd_len gd_run fun cdv A outer s H E hr hp ho =>
    (dss_one (ds_ret (de_ty cr_tuple T.z_tuple (by decide +kernel) (da_cons (de_sl (de_lc (.one 2) [("_law_name", 2)] rfl sc_l_group.nd (by decide) (di_seq (de_blt cr_sortD T.z_sorted boot_sorted (da_cons (de_var 1) da_nil))) (blkOk_by (N := N_l_group) (sc := defScope s_l_group) (by decide +kernel)) (fun _ _ _ _ _ => (pg_name (i := 2) sc_l_group.nd rfl (by first | exact Or.inl rfl | exact Or.inr rfl))) (fun _ _ _ _ _ => (pts_one (dt_cmp (or_eq hr.units) (de_call' (ok_l_pull T) (hr.mono (by decide)) T.g_l_pull T.F_l_pull.kp T.b_l_pull passL (da_cons (de_var 0) (da_cons de_int da_nil))) de_int (nomark _)))) (fun _ _ _ _ _ => (de_var 2))) do_no (do_so de_int)) da_nil))))
theorem ok_l_bases (T : Txt K mg C f fd) : FnOk P w K mg base (L2.CX P w) 2 (f 6) (fd 6) ["_law_bag_here", "_law_group_here"] (spF K F_l_bases) :=
  fn_den d_l_bases T.F_l_bases sc_l_bases gd_len gd_run fun cdv A outer s H E hr hp ho =>
    (dss_cons (ds_if (dt_cmp (or_eq hr.units) (de_var 1) (de_tup da_nil) (nomark _)) (dss_one (ds_ret (de_tup (da_cons (de_tup da_nil) da_nil)))) dss_nil)
      (dss_cons (ds_if (dt_w (dw_and (dt_cmp (or_eq hr.units) (de_blt cr_len T.z_len PySem.boot_len (da_cons (de_var 1) da_nil)) de_int (nomark _)) (dw_and1 (dt_cmp (or_eq hr.units) (de_call' (ok_l_pull T) (hr.mono (by decide)) T.g_l_pull T.F_l_pull.kp T.b_l_pull hp (da_cons (de_var 0) (da_cons de_int da_nil))) de_int (nomark _))))) (dss_one (ds_ret (de_tup (da_cons (de_sl (de_var 1) do_no (do_so de_int)) (da_cons (de_sl (de_var 1) (do_so de_int) do_no) (da_cons (de_tup (da_cons (de_ix (de_var 1) de_int) (da_cons (de_ix (de_var 1) de_int) da_nil))) da_nil)))))) dss_nil)
      (dss_one (ds_ret (de_if (dt_cmp (or_eq hr.units) (de_call' (ok_l_pull T) (hr.mono (by decide)) T.g_l_pull T.F_l_pull.kp T.b_l_pull hp (da_cons (de_var 0) (da_cons de_int da_nil))) de_int (nomark _)) (de_tup (da_cons (de_var 1) da_nil)) (de_ty cr_tuple T.z_tuple (by decide +kernel) (da_cons (de_lc (.one 2) [("_law_name", 2)] rfl sc_l_bases.nd (by decide) (di_seq (de_var 1)) (blkOk_by (N := N_l_bases) (sc := defScope s_l_bases) (by decide +kernel)) (fun _ _ _ _ _ => (pg_name (i := 2) sc_l_bases.nd rfl (by first | exact Or.inl rfl | exact Or.inr rfl))) (fun _ _ _ _ _ => dts_nil) (fun _ _ _ _ _ => (de_tup (da_cons (de_var 2) da_nil)))) da_nil)))))))
theorem ok_l_step (T : Txt K mg C f fd) : FnOk P w K mg base (L2.CX P w) 3 (f 7) (fd 7) ["_law_bag_here", "_law_names_here", "_law_fresh", "_law_looks"] (spF K F_l_step) :=
  fn_den d_l_step T.F_l_step sc_l_step gd_len gd_run fun cdv A outer s H E hr hp ho =>
    (dss_cons (ds_par (i := 4) (j := 5) sc_l_step.nd (da_cons (de_call' (ok_l_pull T) (hr.mono (by decide)) T.g_l_pull T.F_l_pull.kp T.b_l_pull hp (da_cons (de_var 0) (da_cons de_int da_nil))) (da_cons (de_call' (ok_l_group T) (hr.mono (by decide)) T.g_l_group T.F_l_group.kp T.b_l_group hp (da_cons (de_var 0) (da_cons (de_var 1) da_nil))) da_nil)))
      (dss_cons (ds_if (dt_w (dw_and (dt_cmp or_lt (de_var 4) de_int (nomark _)) (dw_and1 (dt_cmp (or_ne hr.units) (de_var 1) (de_lst da_nil) (nomark _))))) (dss_cons (ds_set (i := 6) sc_l_step.nd rfl (by first | exact Or.inl rfl | exact Or.inr rfl) (de_call' (ok_l_any T) (hr.mono (by decide)) T.g_l_any T.F_l_any.kp T.b_l_any hp (da_cons (de_var 0) (da_cons (de_var 1) da_nil))))
      (dss_one (ds_ret (de_ix (de_tup (da_cons (de_tup (da_cons de_str (da_cons (de_var 6) da_nil))) (da_cons (de_tup (da_cons de_str (da_cons (de_var 6) da_nil))) (da_cons (de_tup (da_cons de_str (da_cons (de_var 6) (da_cons (de_var 2) da_nil)))) da_nil)))) (de_var 4))))) dss_nil)
      (dss_cons (ds_if (dt_cmp (or_eq hr.units) (de_var 4) de_int (nomark _)) (dss_one (ds_ret (de_tup (da_cons de_str da_nil)))) dss_nil)
      (dss_cons (ds_if (dt_cmp or_in (de_var 4) (de_tup (da_cons de_int (da_cons de_int da_nil))) (by rfl)) (dss_one (ds_ret (de_tup (da_cons de_str (da_cons (de_var 2) (da_cons (de_var 5) da_nil)))))) dss_nil)
      (dss_cons (ds_if (dt_w (dw_and (dt_cmp or_in (de_var 4) (de_tup (da_cons de_int (da_cons de_int da_nil))) (by rfl)) (dw_and1 (dt_cmp or_gt (de_var 3) de_int (nomark _))))) (dss_one (ds_ret (de_if (dt_cmp (or_eq hr.units) (de_var 4) de_int (nomark _)) (de_tup (da_cons de_str (da_cons (de_var 2) da_nil))) (de_tup (da_cons de_str da_nil))))) dss_nil)
      (dss_one (ds_ret (de_if (dt_cmp (or_eq hr.units) (de_var 4) de_int (nomark _)) (de_tup (da_cons de_str (da_cons (de_call' (ok_l_bases T) (hr.mono (by decide)) T.g_l_bases T.F_l_bases.kp T.b_l_bases hp (da_cons (de_var 0) (da_cons (de_var 5) da_nil))) da_nil))) (de_tup (da_cons de_str (da_cons (de_var 5) da_nil)))))))))))
theorem ok_l_ends (T : Txt K mg C f fd) : FnOk P w K mg base (L2.CX P w) 1 (f 8) (fd 8) ["_law_names_here", "_law_step_here"] (spF K F_l_ends) :=
  fn_den d_l_ends T.F_l_ends sc_l_ends gd_len gd_run fun cdv A outer s H E hr hp ho =>
    (dss_cons (ds_setLc (i := 2) (.one 3) [("_law_name", 3)] rfl sc_l_ends.nd (by decide) (di_seq (de_var 0)) (blkOk_by (N := N_l_ends) (sc := defScope s_l_ends) (by decide +kernel)) (fun _ _ _ _ _ => (pg_name (i := 3) sc_l_ends.nd rfl (by first | exact Or.inl rfl | exact Or.inr rfl))) (fun _ _ _ _ _ => (pts_one (dt_w (dw_or (dt_cmp or_notIn (de_ix (de_var 1) de_int) (de_tup (da_cons de_str (da_cons de_str (da_cons de_str da_nil)))) (by rfl)) (dw_or1 (dt_cmp (or_ne hr.units) (de_var 3) (de_ix (de_var 1) de_int) (nomark _))))))) (fun _ _ _ _ _ => (de_var 3)))
      (dss_cons (ds_if (dt_cmp or_in (de_ix (de_var 1) de_int) (de_tup (da_cons de_str (da_cons de_str (da_cons de_str da_nil)))) (by rfl)) (dss_one (ds_set (i := 2) sc_l_ends.nd rfl (by first | exact Or.inl rfl | exact Or.inr rfl) (de_bin or_add (de_var 2) (de_lst (da_cons (de_if (dt_cmp (or_eq hr.units) (de_ix (de_var 1) de_int) de_str (nomark _)) (de_ix (de_var 1) de_int) (de_ix (de_var 1) de_int)) da_nil))))) dss_nil)
      (dss_one (ds_ret (de_blt cr_sortD T.z_sorted boot_sorted (da_cons (de_var 2) da_nil))))))
theorem ok_l_plain (T : Txt K mg C f fd) : FnOk P w K mg base (L2.CX P w) 4 (f 9) (fd 9) ["_law_bag_here", "_law_names_here", "_law_fresh", "_law_looks"] (spF K F_l_plain) :=
  fn_den d_l_plain T.F_l_plain sc_l_plain gd_len gd_run fun cdv A outer s H E hr hp ho =>
    (dss_cons (ds_par (i := 4) (j := 5) sc_l_plain.nd (da_cons (de_newl da_nil) (da_cons (de_blt cr_sortD T.z_sorted boot_sorted (da_cons (de_var 1) da_nil)) da_nil)))
      (dss_cons (ds_for (.one 6) ho rfl (di_seq (de_var 2)) (pg_name (i := 6) sc_l_plain.nd rfl (by first | exact Or.inl rfl | exact Or.inr rfl)) (dss_cons (ds_set (i := 7) sc_l_plain.nd rfl (by first | exact Or.inl rfl | exact Or.inr rfl) (de_call' (ok_l_step T) (hr.mono (by decide)) T.g_l_step T.F_l_step.kp T.b_l_step hp (da_cons (de_var 0) (da_cons (de_var 5) (da_cons (de_var 6) (da_cons (de_var 3) da_nil))))))
      (dss_cons (ds_set (i := 3) sc_l_plain.nd rfl (by first | exact Or.inl rfl | exact Or.inr rfl) (de_bin or_sub (de_var 3) (de_ty cr_int2 T.z_int (by decide +kernel) (da_cons (de_cmp or_in (de_ix (de_var 7) de_int) (de_tup (da_cons de_str (da_cons de_str da_nil))) (by rfl)) da_nil))))
      (dss_cons (ds_set (i := 5) sc_l_plain.nd rfl (by first | exact Or.inl rfl | exact Or.inr rfl) (de_call' (ok_l_ends T) (hr.mono (by decide)) T.g_l_ends T.F_l_ends.kp T.b_l_ends hp (da_cons (de_var 5) (da_cons (de_var 7) da_nil))))
      (dss_one (ds_expr (de_app (de_var 4) (de_var 7))))))))
      (dss_one (ds_ret (de_tup (da_cons (de_tupH T.z_tuple (de_var 4)) (da_cons (de_var 5) (da_cons (de_var 3) da_nil))))))))
theorem ok_l_test (T : Txt K mg C f fd) : FnOk P w K mg base (L2.CX P w) 3 (f 10) (fd 10) ["_law_bag_here", "_law_names_here", "_law_looks"] (spF K F_l_test) :=
  fn_den d_l_test T.F_l_test sc_l_test gd_len gd_run fun cdv A outer s H E hr hp ho =>
    (dss_cons (ds_par (i := 3) (j := 4) sc_l_test.nd (da_cons (de_call' (ok_l_pull T) (hr.mono (by decide)) T.g_l_pull T.F_l_pull.kp T.b_l_pull hp (da_cons (de_var 0) (da_cons de_int da_nil))) (da_cons (de_call' (ok_l_group T) (hr.mono (by decide)) T.g_l_group T.F_l_group.kp T.b_l_group hp (da_cons (de_var 0) (da_cons (de_var 1) da_nil))) da_nil)))
      (dss_cons (ds_if (dt_w (dw_and (dt_cmp (or_eq hr.units) (de_var 3) de_int (nomark _)) (dw_and1 (dt_cmp or_gt (de_var 2) de_int (nomark _))))) (dss_one (ds_ret (de_tup (da_cons de_str da_nil)))) dss_nil)
      (dss_one (ds_ret (de_if (dt_w (dw_and (dt_cmp (or_eq hr.units) (de_var 3) de_int (nomark _)) (dw_and1 (dt_cmp (or_ne hr.units) (de_var 1) (de_lst da_nil) (nomark _))))) (de_tup (da_cons de_str (da_cons (de_var 4) (da_cons (de_call' (ok_l_any T) (hr.mono (by decide)) T.g_l_any T.F_l_any.kp T.b_l_any hp (da_cons (de_var 0) (da_cons (de_var 1) da_nil))) da_nil)))) (de_tup (da_cons de_str (da_cons (de_var 4) (da_cons (de_call' (ok_l_pull T) (hr.mono (by decide)) T.g_l_pull T.F_l_pull.kp T.b_l_pull hp (da_cons (de_var 0) (da_cons de_int da_nil))) da_nil)))))))))
theorem ok_l_still (T : Txt K mg C f fd) : FnOk P w K mg base (L2.CX P w) 3 (f 11) (fd 11) ["_law_bag_here", "_law_names_here", "_law_looks"] (spF K F_l_still) :=
  fn_den d_l_still T.F_l_still sc_l_still gd_len gd_run fun cdv A outer s H E hr hp ho =>
    (dss_cons (ds_set (i := 3) sc_l_still.nd rfl (by first | exact Or.inl rfl | exact Or.inr rfl) (de_newl da_nil))
      (dss_cons (ds_for (.one 4) ho rfl (di_range1 T.z_range (da_cons (de_call' (ok_l_pull T) (hr.mono (by decide)) T.g_l_pull T.F_l_pull.kp T.b_l_pull hp (da_cons (de_var 0) (da_cons de_int da_nil))) da_nil)) (pg_name (i := 4) sc_l_still.nd rfl (by first | exact Or.inl rfl | exact Or.inr rfl)) (dss_cons (ds_par (i := 5) (j := 6) sc_l_still.nd (da_cons (de_call' (ok_l_pull T) (hr.mono (by decide)) T.g_l_pull T.F_l_pull.kp T.b_l_pull hp (da_cons (de_var 0) (da_cons de_int da_nil))) (da_cons (de_call' (ok_l_group T) (hr.mono (by decide)) T.g_l_group T.F_l_group.kp T.b_l_group hp (da_cons (de_var 0) (da_cons (de_var 1) da_nil))) da_nil)))
      (dss_cons (ds_set (i := 7) sc_l_still.nd rfl (by first | exact Or.inl rfl | exact Or.inr rfl) (de_if (dt_cmp (or_eq hr.units) (de_var 5) de_int (nomark _)) (de_tup (da_cons de_str (da_cons (de_var 6) da_nil))) (de_tup (da_cons de_str (da_cons (de_call' (ok_l_bases T) (hr.mono (by decide)) T.g_l_bases T.F_l_bases.kp T.b_l_bases hp (da_cons (de_var 0) (da_cons (de_var 6) da_nil))) da_nil)))))
      (dss_cons (ds_if (dt_w (dw_and (dt_cmp (or_eq hr.units) (de_var 5) de_int (nomark _)) (dw_and1 (dt_cmp or_gt (de_var 2) de_int (nomark _))))) (dss_one (ds_par (i := 7) (j := 2) sc_l_still.nd (da_cons (de_tup (da_cons de_str da_nil)) (da_cons (de_bin or_sub (de_var 2) de_int) da_nil)))) dss_nil)
      (dss_one (ds_expr (de_app (de_var 3) (de_var 7))))))))
      (dss_one (ds_ret (de_tup (da_cons (de_tupH T.z_tuple (de_var 3)) (da_cons (de_var 2) da_nil)))))))
theorem ok_l_body (T : Txt K mg C f fd) : FnOk P w K mg base (L2.CX P w) 5 (f 12) (fd 12) ["_law_bag_here", "_law_names_here", "_law_fresh", "_law_looks"] (spF K F_l_body) :=
  fn_den d_l_body T.F_l_body sc_l_body gd_len gd_run fun cdv A outer s H E hr hp ho =>
    (dss_cons (ds_set (i := 4) sc_l_body.nd rfl (by first | exact Or.inl rfl | exact Or.inr rfl) (de_call' (ok_l_pull T) (hr.mono (by decide)) T.g_l_pull T.F_l_pull.kp T.b_l_pull hp (da_cons (de_var 0) (da_cons (de_bin or_add (de_blt cr_len T.z_len PySem.boot_len (da_cons (de_var 2) da_nil)) de_int) da_nil))))
      (dss_cons (ds_asg (.tup [5, 6, 3]) (de_call' (ok_l_plain T) (hr.mono (by decide)) T.g_l_plain T.F_l_plain.kp T.b_l_plain hp (da_cons (de_var 0) (da_cons (de_var 1) (da_cons (de_sl (de_var 2) do_no (do_so (de_var 4))) (da_cons (de_var 3) da_nil))))) (pg_tup rfl (pgs_cons (pg_name (i := 5) sc_l_body.nd rfl (by first | exact Or.inl rfl | exact Or.inr rfl)) (pgs_cons (pg_name (i := 6) sc_l_body.nd rfl (by first | exact Or.inl rfl | exact Or.inr rfl)) (pgs_cons (pg_name (i := 3) sc_l_body.nd rfl (by first | exact Or.inl rfl | exact Or.inr rfl)) pgs_nil)))))
      (dss_cons (ds_if (dt_cmp (or_eq hr.units) (de_call' (ok_l_pull T) (hr.mono (by decide)) T.g_l_pull T.F_l_pull.kp T.b_l_pull hp (da_cons (de_var 0) (da_cons de_int da_nil))) de_int (nomark _)) (dss_cons (ds_set (i := 8) sc_l_body.nd rfl (by first | exact Or.inl rfl | exact Or.inr rfl) (de_call' (ok_l_test T) (hr.mono (by decide)) T.g_l_test T.F_l_test.kp T.b_l_test hp (da_cons (de_var 0) (da_cons (de_var 6) (da_cons (de_var 3) da_nil)))))
      (dss_cons (ds_set (i := 3) sc_l_body.nd rfl (by first | exact Or.inl rfl | exact Or.inr rfl) (de_bin or_sub (de_var 3) (de_ty cr_int2 T.z_int (by decide +kernel) (da_cons (de_cmp (or_eq hr.units) (de_var 8) (de_tup (da_cons de_str da_nil)) (nomark _)) da_nil))))
      (dss_cons (ds_asg (.tup [9, 3]) (de_call' (ok_l_still T) (hr.mono (by decide)) T.g_l_still T.F_l_still.kp T.b_l_still hp (da_cons (de_var 0) (da_cons (de_var 6) (da_cons (de_var 3) da_nil)))) (pg_tup rfl (pgs_cons (pg_name (i := 9) sc_l_body.nd rfl (by first | exact Or.inl rfl | exact Or.inr rfl)) (pgs_cons (pg_name (i := 3) sc_l_body.nd rfl (by first | exact Or.inl rfl | exact Or.inr rfl)) pgs_nil))))
      (dss_cons (ds_asg (.tup [10, 3]) (de_call' (ok_l_still T) (hr.mono (by decide)) T.g_l_still T.F_l_still.kp T.b_l_still hp (da_cons (de_var 0) (da_cons (de_var 6) (da_cons (de_var 3) da_nil)))) (pg_tup rfl (pgs_cons (pg_name (i := 10) sc_l_body.nd rfl (by first | exact Or.inl rfl | exact Or.inr rfl)) (pgs_cons (pg_name (i := 3) sc_l_body.nd rfl (by first | exact Or.inl rfl | exact Or.inr rfl)) pgs_nil))))
      (dss_one (ds_set (i := 5) sc_l_body.nd rfl (by first | exact Or.inl rfl | exact Or.inr rfl) (de_bin or_add (de_var 5) (de_tup (da_cons (de_tup (da_cons de_str (da_cons (de_var 8) (da_cons (de_var 9) (da_cons (de_var 10) da_nil))))) da_nil))))))))) dss_nil)
      (dss_cons (ds_if (dt_cmp (or_eq hr.units) (de_call' (ok_l_pull T) (hr.mono (by decide)) T.g_l_pull T.F_l_pull.kp T.b_l_pull hp (da_cons (de_var 0) (da_cons de_int da_nil))) de_int (nomark _)) (dss_one (ds_set (i := 5) sc_l_body.nd rfl (by first | exact Or.inl rfl | exact Or.inr rfl) (de_bin or_add (de_var 5) (de_tup (da_cons (de_tup (da_cons de_str (da_cons (de_bin or_add de_int (de_call' (ok_l_pull T) (hr.mono (by decide)) T.g_l_pull T.F_l_pull.kp T.b_l_pull hp (da_cons (de_var 0) (da_cons de_int da_nil)))) (da_cons (de_ix (de_call' (ok_l_still T) (hr.mono (by decide)) T.g_l_still T.F_l_still.kp T.b_l_still hp (da_cons (de_var 0) (da_cons (de_var 6) (da_cons de_int da_nil)))) de_int) da_nil)))) da_nil))))) dss_nil)
      (dss_cons (ds_asg (.tup [7, 6, 3]) (de_call' (ok_l_plain T) (hr.mono (by decide)) T.g_l_plain T.F_l_plain.kp T.b_l_plain hp (da_cons (de_var 0) (da_cons (de_var 6) (da_cons (de_sl (de_var 2) (do_so (de_var 4)) do_no) (da_cons (de_var 3) da_nil))))) (pg_tup rfl (pgs_cons (pg_name (i := 7) sc_l_body.nd rfl (by first | exact Or.inl rfl | exact Or.inr rfl)) (pgs_cons (pg_name (i := 6) sc_l_body.nd rfl (by first | exact Or.inl rfl | exact Or.inr rfl)) (pgs_cons (pg_name (i := 3) sc_l_body.nd rfl (by first | exact Or.inl rfl | exact Or.inr rfl)) pgs_nil)))))
      (dss_one (ds_ret (de_tup (da_cons (de_bin or_add (de_var 5) (de_var 7)) (da_cons (de_var 6) da_nil))))))))))
theorem ok_l_all_steps (T : Txt K mg C f fd) : FnOk P w K mg base (L2.CX P w) 6 (f 13) (fd 13) ["_law_bag_here", "_law_names_here", "_law_fresh"] (spF K F_l_all_steps) :=
  fn_den d_l_all_steps T.F_l_all_steps sc_l_all_steps gd_len gd_run fun cdv A outer s H E hr hp ho =>
    (dss_cons (ds_asg (.tup [3, 4]) (de_call' (ok_l_body T) (hr.mono (by decide)) T.g_l_body T.F_l_body.kp T.b_l_body hp (da_cons (de_var 0) (da_cons (de_var 1) (da_cons (de_var 2) (da_cons de_int da_nil))))) (pg_tup rfl (pgs_cons (pg_name (i := 3) sc_l_all_steps.nd rfl (by first | exact Or.inl rfl | exact Or.inr rfl)) (pgs_cons (pg_name (i := 4) sc_l_all_steps.nd rfl (by first | exact Or.inl rfl | exact Or.inr rfl)) pgs_nil))))
      (dss_cons (ds_set (i := 5) sc_l_all_steps.nd rfl (by first | exact Or.inl rfl | exact Or.inr rfl) (de_ix (de_call' (ok_l_still T) (hr.mono (by decide)) T.g_l_still T.F_l_still.kp T.b_l_still hp (da_cons (de_var 0) (da_cons (de_var 4) (da_cons de_int da_nil)))) de_int))
      (dss_cons (ds_set (i := 6) sc_l_all_steps.nd rfl (by first | exact Or.inl rfl | exact Or.inr rfl) (de_tup (da_cons (de_tup (da_cons de_str (da_cons (de_bin or_add de_int (de_call' (ok_l_pull T) (hr.mono (by decide)) T.g_l_pull T.F_l_pull.kp T.b_l_pull hp (da_cons (de_var 0) (da_cons de_int da_nil)))) (da_cons (de_bin or_add (de_var 5) (de_tup (da_cons (de_tup (da_cons de_str (da_cons (de_call' (ok_l_any T) (hr.mono (by decide)) T.g_l_any T.F_l_any.kp T.b_l_any hp (da_cons (de_var 0) (da_cons (de_lst (da_cons de_str (da_cons de_str (da_cons de_str da_nil)))) da_nil))) da_nil))) da_nil))) da_nil)))) da_nil)))
      (dss_cons (ds_set (i := 3) sc_l_all_steps.nd rfl (by first | exact Or.inl rfl | exact Or.inr rfl) (de_bin or_add (de_var 3) (de_if (dt_cmp (or_eq hr.units) (de_call' (ok_l_pull T) (hr.mono (by decide)) T.g_l_pull T.F_l_pull.kp T.b_l_pull hp (da_cons (de_var 0) (da_cons de_int da_nil))) de_int (nomark _)) (de_tup (da_cons (de_tup (da_cons de_str (da_cons (de_call' (ok_l_test T) (hr.mono (by decide)) T.g_l_test T.F_l_test.kp T.b_l_test hp (da_cons (de_var 0) (da_cons (de_var 4) (da_cons de_int da_nil)))) (da_cons (de_var 6) (da_cons (de_tup da_nil) da_nil))))) da_nil)) (de_tup da_nil))))
      (dss_one (ds_ret (de_bin or_add (de_var 3) (de_if (dt_cmp (or_eq hr.units) (de_call' (ok_l_pull T) (hr.mono (by decide)) T.g_l_pull T.F_l_pull.kp T.b_l_pull hp (da_cons (de_var 0) (da_cons de_int da_nil))) de_int (nomark _)) (de_tup (da_cons (de_tup (da_cons de_str (da_cons (de_call' (ok_l_test T) (hr.mono (by decide)) T.g_l_test T.F_l_test.kp T.b_l_test hp (da_cons (de_var 0) (da_cons (de_var 4) (da_cons de_int da_nil)))) (da_cons (de_tup da_nil) (da_cons (de_bin or_add (de_var 6) (de_var 5)) da_nil))))) da_nil)) (de_tup da_nil)))))))))
theorem ok_l_test_words (T : Txt K mg C f fd) : FnOk P w K mg base (L2.CX P w) 1 (f 14) (fd 14) ["_law_test_here"] (spF K F_l_test_words) :=
  fn_den d_l_test_words T.F_l_test_words sc_l_test_words gd_len gd_run fun cdv A outer s H E hr hp ho =>
    (dss_cons (ds_if (dt_cmp (or_eq hr.units) (de_ix (de_var 0) de_int) de_str (nomark _)) (dss_one (ds_ret (de_lst (da_cons de_str da_nil)))) dss_nil)
      (dss_one (ds_ret (de_bin or_add (de_lst (da_cons (de_ix (de_var 0) de_int) (da_cons (de_ty cr_str2 T.z_str (by decide +kernel) (da_cons (de_ix (de_var 0) de_int) da_nil)) da_nil))) (de_ty cr_list T.z_list (by decide +kernel) (da_cons (de_ix (de_var 0) de_int) da_nil))))))
theorem ok_l_step_words (T : Txt K mg C f fd) {F : FDen} {l : Nat} (hl : 2 ≤ l) (G : FnOk P w K mg base (L2.CX P w) l (f 16) (fd 16) ["_law_steps"] (spF K F)) : FnOk P w K mg base (L2.CX P w) (l + 1) (f 15) (fd 15) ["_law_step_here"] (spF K (F_l_step_words F)) :=
  fn_den (d_l_step_words F) T.F_l_step_words sc_l_step_words gd_len gd_run fun cdv A outer s H E hr hp ho =>
    (dss_cons (ds_set (i := 1) sc_l_step_words.nd rfl (by first | exact Or.inl rfl | exact Or.inr rfl) (de_ix (de_var 0) de_int))
      (dss_cons (ds_if (dt_cmp (or_eq hr.units) (de_var 1) de_str (nomark _)) (dss_one (ds_ret (de_bin or_add (de_bin or_add (de_bin or_add (de_bin or_add (de_bin or_add (de_bin or_add (de_lst (da_cons de_str da_nil)) (de_call' (ok_l_test_words T) (hr.mono (by omega)) T.g_l_test_words T.F_l_test_words.kp T.b_l_test_words hp (da_cons (de_ix (de_var 0) de_int) da_nil))) (de_lst (da_cons de_str da_nil))) (de_call' G (hr.mono (by omega)) T.g_l_words T.F_l_words.kp T.b_l_words hp (da_cons (de_ix (de_var 0) de_int) da_nil))) (de_lst (da_cons de_str (da_cons de_str (da_cons de_str da_nil))))) (de_call' G (hr.mono (by omega)) T.g_l_words T.F_l_words.kp T.b_l_words hp (da_cons (de_ix (de_var 0) de_int) da_nil))) (de_lst (da_cons de_str da_nil))))) dss_nil)
      (dss_cons (ds_if (dt_cmp (or_eq hr.units) (de_var 1) de_str (nomark _)) (dss_one (ds_ret (de_bin or_add (de_bin or_add (de_lst (da_cons de_str (da_cons (de_ty cr_str2 T.z_str (by decide +kernel) (da_cons (de_ix (de_var 0) de_int) da_nil)) (da_cons de_str da_nil)))) (de_call' G (hr.mono (by omega)) T.g_l_words T.F_l_words.kp T.b_l_words hp (da_cons (de_ix (de_var 0) de_int) da_nil))) (de_lst (da_cons de_str da_nil))))) dss_nil)
      (dss_cons (ds_if (dt_cmp (or_eq hr.units) (de_var 1) de_str (nomark _)) (dss_one (ds_ret (de_bin or_add (de_lst (da_cons de_str (da_cons (de_ix (de_var 0) de_int) da_nil))) (de_ty cr_list T.z_list (by decide +kernel) (da_cons (de_ix (de_var 0) de_int) da_nil))))) dss_nil)
      (dss_cons (ds_if (dt_cmp (or_eq hr.units) (de_var 1) de_str (nomark _)) (dss_one (ds_ret (de_bin or_add (de_lst (da_cons de_str da_nil)) (de_ty cr_list T.z_list (by decide +kernel) (da_cons (de_ix (de_var 0) de_int) da_nil))))) dss_nil)
      (dss_cons (ds_if (dt_cmp (or_eq hr.units) (de_var 1) de_str (nomark _)) (dss_cons (ds_set (i := 2) sc_l_step_words.nd rfl (by first | exact Or.inl rfl | exact Or.inr rfl) (de_bin or_add (de_lst (da_cons de_str da_nil)) (de_ty cr_list T.z_list (by decide +kernel) (da_cons (de_ix (de_ix (de_var 0) de_int) de_int) da_nil))))
      (dss_cons (ds_for (.one 3) ho rfl (di_seq (de_sl (de_ix (de_var 0) de_int) (do_so de_int) do_no)) (pg_name (i := 3) sc_l_step_words.nd rfl (by first | exact Or.inl rfl | exact Or.inr rfl)) (dss_one (ds_set (i := 2) sc_l_step_words.nd rfl (by first | exact Or.inl rfl | exact Or.inr rfl) (de_bin or_add (de_bin or_add (de_var 2) (de_lst (da_cons de_str da_nil))) (de_ty cr_list T.z_list (by decide +kernel) (da_cons (de_var 3) da_nil))))))
      (dss_one (ds_ret (de_var 2))))) dss_nil)
      (dss_one (ds_ret (de_ty cr_list T.z_list (by decide +kernel) (da_cons (de_var 0) da_nil))))))))))
theorem ok_l_words (T : Txt K mg C f fd) : ∀ n : Nat, FnOk P w K mg base (L2.CX P w) (2 + 2 * n) (f 16) (fd 16) ["_law_steps"] (spF K (F_l_words n))
  | 0 => fn_void
  | n + 1 => have G := ok_l_words T n
    have hl : 2 ≤ 2 + 2 * n := Nat.le_add_right _ _
    (fn_den (k := 2 + 2 * n + 1) (d_l_words (F_l_words n)) T.F_l_words sc_l_words gd_len gd_run fun cdv A outer s H E hr hp ho =>
      (dss_cons (ds_set (i := 1) sc_l_words.nd rfl (by first | exact Or.inl rfl | exact Or.inr rfl) (de_lst da_nil))
      (dss_cons (ds_for (.one 2) ho rfl (di_seq (de_var 0)) (pg_name (i := 2) sc_l_words.nd rfl (by first | exact Or.inl rfl | exact Or.inr rfl)) (dss_one (ds_set (i := 1) sc_l_words.nd rfl (by first | exact Or.inl rfl | exact Or.inr rfl) (de_bin or_add (de_bin or_add (de_var 1) (de_if (dt_cmp (or_ne hr.units) (de_var 1) (de_lst da_nil) (nomark _)) (de_lst (da_cons de_str da_nil)) (de_lst da_nil))) (de_call' (ok_l_step_words T hl G) (hr.mono (by omega)) T.g_l_step_words T.F_l_step_words.kp T.b_l_step_words hp (da_cons (de_var 2) da_nil))))))
      (dss_one (ds_ret (de_var 1)))))).mono (by omega)
theorem ok_l_text (T : Txt K mg C f fd) : FnOk P w K mg base (L2.CX P w) 19 (f 17) (fd 17) ["_law_steps"] (spF K F_l_text) :=
  fn_den d_l_text T.F_l_text sc_l_text gd_len gd_run fun cdv A outer s H E hr hp ho =>
    (dss_one (ds_ret (de_join de_str (de_call' (ok_l_words T 8) (hr.mono (by decide)) T.g_l_words T.F_l_words.kp T.b_l_words hp (da_cons (de_var 0) da_nil)) (hstr := fun _ _ _ _ h => by cases h; exact ⟨_, rfl⟩))))
theorem ok_l_same (T : Txt K mg C f fd) : ∀ n : Nat, FnOk P w K mg base (L2.CX P w) (1 + n) (f 18) (fd 18) ["_law_found", "_law_due"] (spF K (F_l_same n))
  | 0 => fn_void
  | n + 1 => have G := ok_l_same T n
    fn_den (d_l_same (F_l_same n)) T.F_l_same sc_l_same gd_len gd_run fun cdv A outer s H E hr hp ho =>
      (dss_cons (ds_if (dt_tru (de_isi2 .lst .tup T.z_isinstance T.z_list T.z_tuple (by decide +kernel) (by decide +kernel) (de_var 1))) (dss_cons (ds_if (dt_w (dw_or (dt_cmp (or_ne hr.units) (de_isi .lst T.z_isinstance T.z_list (by decide +kernel) (de_var 0)) (de_isi .lst T.z_isinstance T.z_list (by decide +kernel) (de_var 1)) (nomark _)) (dw_or1 (dt_cmp (or_ne hr.units) (de_isi .tup T.z_isinstance T.z_tuple (by decide +kernel) (de_var 0)) (de_isi .tup T.z_isinstance T.z_tuple (by decide +kernel) (de_var 1)) (nomark _))))) (dss_one (ds_ret de_bl)) dss_nil)
      (dss_one (ds_ret (de_and (de_cmp (or_eq hr.units) (de_blt cr_len T.z_len PySem.boot_len (da_cons (de_var 0) da_nil)) (de_blt cr_len T.z_len PySem.boot_len (da_cons (de_var 1) da_nil)) (nomark _)) (de_one (de_blt (Dn.cr_all rfl) T.z_all (by decide +kernel) (da_cons (de_lc (.tup [2, 3]) [("_law_one", 2), ("_law_two", 3)] rfl sc_l_same.nd (by decide) (di_zip T.z_zip (da_cons (de_var 0) (da_cons (de_var 1) da_nil))) (blkOk_by (N := N_l_same) (sc := defScope s_l_same) (by decide +kernel)) (fun _ _ _ _ _ => (pg_tup rfl (pgs_cons (pg_name (i := 2) sc_l_same.nd rfl (by first | exact Or.inl rfl | exact Or.inr rfl)) (pgs_cons (pg_name (i := 3) sc_l_same.nd rfl (by first | exact Or.inl rfl | exact Or.inr rfl)) pgs_nil)))) (fun _ _ _ _ _ => dts_nil) (fun _ _ _ _ _ => (de_call' G hr T.g_l_same T.F_l_same.kp T.b_l_same passL (da_cons (de_var 2) (da_cons (de_var 3) da_nil))))) da_nil))))))) dss_nil)
      (dss_cons (ds_if (dt_w (dw_or (dt_isN (de_var 1)) (dw_or1 (dt_isN (de_var 0))))) (dss_one (ds_ret (de_and (de_isN (de_var 1)) (de_one (de_isN (de_var 0)))))) dss_nil)
      (dss_cons (ds_if (dt_w (dw_or (dt_cmp (or_ne hr.units) (de_isi .bl T.z_isinstance T.z_bool (by decide +kernel) (de_var 0)) (de_isi .bl T.z_isinstance T.z_bool (by decide +kernel) (de_var 1)) (nomark _)) (dw_or1 (dt_cmp (or_ne hr.units) (de_isi .int T.z_isinstance T.z_int (by decide +kernel) (de_var 0)) (de_isi .int T.z_isinstance T.z_int (by decide +kernel) (de_var 1)) (nomark _))))) (dss_one (ds_ret de_bl)) dss_nil)
      (dss_one (ds_ret (de_and (de_cmp (or_eq hr.units) (de_isi .str T.z_isinstance T.z_str (by decide +kernel) (de_var 0)) (de_isi .str T.z_isinstance T.z_str (by decide +kernel) (de_var 1)) (nomark _)) (de_one (de_cmp (or_eq hr.units) (de_var 0) (de_var 1) (nomark _)))))))))
theorem ok_word (T : Txt K mg C f fd) : FnOk P w K mg base (L2.CX P w) 1 (f 19) (fd 19) ["words", "at"] (spF K F_word) :=
  fn_den d_word T.F_word sc_word gd_len gd_run fun cdv A outer s H E hr hp ho =>
    (dss_one (ds_ret (de_if (dt_cmp or_lt (de_var 1) (de_blt cr_len T.z_len PySem.boot_len (da_cons (de_var 0) da_nil)) (nomark _)) (de_ix (de_var 0) (de_var 1)) de_str)))
theorem ok_is_word (T : Txt K mg C f fd) : FnOk P w K mg base (L2.CX P w) 1 (f 20) (fd 20) ["value", "most"] (spF K F_is_word) :=
  fn_den d_is_word T.F_is_word sc_is_word gd_len gd_run fun cdv A outer s H E hr hp ho =>
    (dss_one (ds_ret (de_and (de_isi .str T.z_isinstance T.z_str (by decide +kernel) (de_var 0)) (de_and (de_ch or_le or_le de_int (de_blt cr_len T.z_len PySem.boot_len (da_cons (de_var 0) da_nil)) (de_var 1)) (de_one (de_blt (Dn.cr_all rfl) T.z_all (by decide +kernel) (da_cons (de_lc (.one 2) [("sign", 2)] rfl sc_is_word.nd (by decide) (di_seq (de_var 0)) (blkOk_by (N := N_is_word) (sc := defScope s_is_word) (by decide +kernel)) (fun _ _ _ _ _ => (pg_name (i := 2) sc_is_word.nd rfl (by first | exact Or.inl rfl | exact Or.inr rfl))) (fun _ _ _ _ _ => dts_nil) (fun _ _ _ _ _ => (de_ch or_le or_le de_str (de_var 2) de_str))) da_nil)))))))
theorem ok_is_name (T : Txt K mg C f fd) : FnOk P w K mg base (L2.CX P w) 2 (f 21) (fd 21) ["value"] (spF K F_is_name) :=
  fn_den d_is_name T.F_is_name sc_is_name gd_len gd_run fun cdv A outer s H E hr hp ho =>
    (dss_one (ds_ret (de_call' (ok_is_word T) (hr.mono (by decide)) T.g_is_word T.F_is_word.kp T.b_is_word hp (da_cons (de_var 0) (da_cons de_int da_nil)))))
theorem ok_read_name (T : Txt K mg C f fd) : FnOk P w K mg base (L2.CX P w) 3 (f 22) (fd 22) ["words", "at"] (spF K F_read_name) :=
  fn_den d_read_name T.F_read_name sc_read_name gd_len gd_run fun cdv A outer s H E hr hp ho =>
    (dss_cons (ds_if (dt_not (dt_tru (de_call' (ok_is_name T) (hr.mono (by decide)) T.g_is_name T.F_is_name.kp T.b_is_name hp (da_cons (de_call' (ok_word T) (hr.mono (by decide)) T.g_word T.F_word.kp T.b_word hp (da_cons (de_var 0) (da_cons (de_var 1) da_nil))) da_nil)))) (dss_one ds_never) dss_nil)
      (dss_one (ds_ret (de_ix (de_var 0) (de_var 1)))))
theorem ok_read_group (T : Txt K mg C f fd) : FnOk P w K mg base (L2.CX P w) 3 (f 23) (fd 23) ["words", "at"] (spF K F_read_group) :=
  fn_den d_read_group T.F_read_group sc_read_group gd_len gd_run fun cdv A outer s H E hr hp ho =>
    (dss_cons (ds_set (i := 2) sc_read_group.nd rfl (by first | exact Or.inl rfl | exact Or.inr rfl) (de_var 1))
      (dss_cons (ds_while ho (dt_w (dw_and (dt_tru (de_call' (ok_is_name T) (hr.mono (by decide)) T.g_is_name T.F_is_name.kp T.b_is_name hp (da_cons (de_call' (ok_word T) (hr.mono (by decide)) T.g_word T.F_word.kp T.b_word hp (da_cons (de_var 0) (da_cons (de_var 1) da_nil))) da_nil))) (dw_and1 (dt_w (dw_or (dt_cmp (or_eq hr.units) (de_var 1) (de_var 2) (nomark _)) (dw_or1 (dt_cmp or_lt (de_ix (de_var 0) (de_bin or_sub (de_var 1) de_int)) (de_ix (de_var 0) (de_var 1)) (nomark _)))))))) (dss_one (ds_set (i := 1) sc_read_group.nd rfl (by first | exact Or.inl rfl | exact Or.inr rfl) (de_bin or_add (de_var 1) de_int))))
      (dss_one (ds_ret (de_tup (da_cons (de_ty cr_tuple T.z_tuple (by decide +kernel) (da_cons (de_sl (de_var 0) (do_so (de_var 2)) (do_so (de_var 1))) da_nil)) (da_cons (de_var 1) da_nil)))))))
theorem ok_read_bases (T : Txt K mg C f fd) : FnOk P w K mg base (L2.CX P w) 4 (f 24) (fd 24) ["words", "at"] (spF K F_read_bases) :=
  fn_den d_read_bases T.F_read_bases sc_read_bases gd_len gd_run fun cdv A outer s H E hr hp ho =>
    (dss_cons (ds_asg (.tup [2, 1]) (de_call' (ok_read_group T) (hr.mono (by decide)) T.g_read_group T.F_read_group.kp T.b_read_group hp (da_cons (de_var 0) (da_cons (de_var 1) da_nil))) (pg_tup rfl (pgs_cons (pg_name (i := 2) sc_read_bases.nd rfl (by first | exact Or.inl rfl | exact Or.inr rfl)) (pgs_cons (pg_name (i := 1) sc_read_bases.nd rfl (by first | exact Or.inl rfl | exact Or.inr rfl)) pgs_nil))))
      (dss_cons (ds_set (i := 3) sc_read_bases.nd rfl (by first | exact Or.inl rfl | exact Or.inr rfl) (de_tup (da_cons (de_var 2) da_nil)))
      (dss_cons (ds_while ho (dt_cmp (or_eq hr.units) (de_call' (ok_word T) (hr.mono (by decide)) T.g_word T.F_word.kp T.b_word hp (da_cons (de_var 0) (da_cons (de_var 1) da_nil))) de_str (nomark _)) (dss_cons (ds_asg (.tup [2, 1]) (de_call' (ok_read_group T) (hr.mono (by decide)) T.g_read_group T.F_read_group.kp T.b_read_group hp (da_cons (de_var 0) (da_cons (de_bin or_add (de_var 1) de_int) da_nil))) (pg_tup rfl (pgs_cons (pg_name (i := 2) sc_read_bases.nd rfl (by first | exact Or.inl rfl | exact Or.inr rfl)) (pgs_cons (pg_name (i := 1) sc_read_bases.nd rfl (by first | exact Or.inl rfl | exact Or.inr rfl)) pgs_nil))))
      (dss_one (ds_set (i := 3) sc_read_bases.nd rfl (by first | exact Or.inl rfl | exact Or.inr rfl) (de_bin or_add (de_var 3) (de_tup (da_cons (de_var 2) da_nil)))))))
      (dss_one (ds_ret (de_tup (da_cons (de_var 3) (da_cons (de_var 1) da_nil))))))))
theorem ok_read_digit (T : Txt K mg C f fd) : FnOk P w K mg base (L2.CX P w) 2 (f 25) (fd 25) ["words", "at", "digits"] (spF K F_read_digit) :=
  fn_den d_read_digit T.F_read_digit sc_read_digit gd_len gd_run fun cdv A outer s H E hr hp ho =>
    (dss_cons (ds_if (dt_cmp or_notIn (de_call' (ok_word T) (hr.mono (by decide)) T.g_word T.F_word.kp T.b_word hp (da_cons (de_var 0) (da_cons (de_var 1) da_nil))) (de_var 2) (by rfl)) (dss_one ds_never) dss_nil)
      (dss_one (ds_ret (de_ty cr_int3 T.z_int (by decide +kernel) (da_cons (de_ix (de_var 0) (de_var 1)) da_nil)))))
theorem ok_read_test (T : Txt K mg C f fd) : FnOk P w K mg base (L2.CX P w) 4 (f 26) (fd 26) ["words", "at"] (spF K F_read_test) :=
  fn_den d_read_test T.F_read_test sc_read_test gd_len gd_run fun cdv A outer s H E hr hp ho =>
    (dss_cons (ds_set (i := 2) sc_read_test.nd rfl (by first | exact Or.inl rfl | exact Or.inr rfl) (de_call' (ok_word T) (hr.mono (by decide)) T.g_word T.F_word.kp T.b_word hp (da_cons (de_var 0) (da_cons (de_var 1) da_nil))))
      (dss_cons (ds_if (dt_cmp (or_eq hr.units) (de_var 2) de_str (nomark _)) (dss_one (ds_ret (de_tup (da_cons (de_tup (da_cons (de_var 2) da_nil)) (da_cons (de_bin or_add (de_var 1) de_int) da_nil))))) dss_nil)
      (dss_cons (ds_if (dt_cmp (or_eq hr.units) (de_var 2) de_str (nomark _)) (dss_cons (ds_set (i := 3) sc_read_test.nd rfl (by first | exact Or.inl rfl | exact Or.inr rfl) (de_call' (ok_read_digit T) (hr.mono (by decide)) T.g_read_digit T.F_read_digit.kp T.b_read_digit hp (da_cons (de_var 0) (da_cons (de_bin or_add (de_var 1) de_int) (da_cons (de_gtup (by rfl) T.k_RANKS.choose_spec.1 T.k_RANKS.choose_spec.2 (fun _ _ => (.cons (.str _) (.cons (.str _) (.cons (.str _) (.cons (.str _) (.cons (.str _) (.cons (.str _) (.cons (.str _) .nil))))))))) da_nil)))))
      (dss_cons (ds_asg (.tup [4, 1]) (de_call' (ok_read_group T) (hr.mono (by decide)) T.g_read_group T.F_read_group.kp T.b_read_group hp (da_cons (de_var 0) (da_cons (de_bin or_add (de_var 1) de_int) da_nil))) (pg_tup rfl (pgs_cons (pg_name (i := 4) sc_read_test.nd rfl (by first | exact Or.inl rfl | exact Or.inr rfl)) (pgs_cons (pg_name (i := 1) sc_read_test.nd rfl (by first | exact Or.inl rfl | exact Or.inr rfl)) pgs_nil))))
      (dss_one (ds_ret (de_tup (da_cons (de_tup (da_cons (de_var 2) (da_cons (de_var 4) (da_cons (de_var 3) da_nil)))) (da_cons (de_var 1) da_nil))))))) dss_nil)
      (dss_cons (ds_if (dt_cmp (or_eq hr.units) (de_var 2) de_str (nomark _)) (dss_cons (ds_set (i := 5) sc_read_test.nd rfl (by first | exact Or.inl rfl | exact Or.inr rfl) (de_call' (ok_read_name T) (hr.mono (by decide)) T.g_read_name T.F_read_name.kp T.b_read_name hp (da_cons (de_var 0) (da_cons (de_bin or_add (de_var 1) de_int) da_nil))))
      (dss_cons (ds_asg (.tup [4, 1]) (de_call' (ok_read_group T) (hr.mono (by decide)) T.g_read_group T.F_read_group.kp T.b_read_group hp (da_cons (de_var 0) (da_cons (de_bin or_add (de_var 1) de_int) da_nil))) (pg_tup rfl (pgs_cons (pg_name (i := 4) sc_read_test.nd rfl (by first | exact Or.inl rfl | exact Or.inr rfl)) (pgs_cons (pg_name (i := 1) sc_read_test.nd rfl (by first | exact Or.inl rfl | exact Or.inr rfl)) pgs_nil))))
      (dss_one (ds_ret (de_tup (da_cons (de_tup (da_cons (de_var 2) (da_cons (de_var 4) (da_cons (de_var 5) da_nil)))) (da_cons (de_var 1) da_nil))))))) dss_nil)
      (dss_one ds_never)))))
theorem ok_read_brackets (T : Txt K mg C f fd) {F : FDen} {l : Nat} (hl : 5 ≤ l) (G : FnOk P w K mg base (L2.CX P w) l (f 32) (fd 32) ["words", "at", "depth"] (spF K F)) : FnOk P w K mg base (L2.CX P w) (l + 1) (f 27) (fd 27) ["words", "at", "depth"] (spF K (F_read_brackets F)) :=
  fn_den (d_read_brackets F) T.F_read_brackets sc_read_brackets gd_len gd_run fun cdv A outer s H E hr hp ho =>
    (dss_cons (ds_if (dt_w (dw_or (dt_cmp (or_ne hr.units) (de_call' (ok_word T) (hr.mono (by omega)) T.g_word T.F_word.kp T.b_word hp (da_cons (de_var 0) (da_cons (de_var 1) da_nil))) de_str (nomark _)) (dw_or1 (dt_cmp (or_eq hr.units) (de_var 2) (de_glob (by rfl) T.k_MOST_OPEN.choose_spec.1 T.k_MOST_OPEN.choose_spec.2 (fun _ _ => .int _)) (nomark _))))) (dss_one ds_never) dss_nil)
      (dss_cons (ds_par (i := 3) (j := 1) sc_read_brackets.nd (da_cons (de_tup da_nil) (da_cons (de_bin or_add (de_var 1) de_int) da_nil)))
      (dss_cons (ds_if (dt_cmp (or_ne hr.units) (de_call' (ok_word T) (hr.mono (by omega)) T.g_word T.F_word.kp T.b_word hp (da_cons (de_var 0) (da_cons (de_var 1) da_nil))) de_str (nomark _)) (dss_one (ds_asg (.tup [3, 1]) (de_call' G (hr.mono (by omega)) T.g_read_some T.F_read_some.kp T.b_read_some hp (da_cons (de_var 0) (da_cons (de_var 1) (da_cons (de_bin or_add (de_var 2) de_int) da_nil)))) (pg_tup rfl (pgs_cons (pg_name (i := 3) sc_read_brackets.nd rfl (by first | exact Or.inl rfl | exact Or.inr rfl)) (pgs_cons (pg_name (i := 1) sc_read_brackets.nd rfl (by first | exact Or.inl rfl | exact Or.inr rfl)) pgs_nil))))) dss_nil)
      (dss_cons (ds_if (dt_cmp (or_ne hr.units) (de_call' (ok_word T) (hr.mono (by omega)) T.g_word T.F_word.kp T.b_word hp (da_cons (de_var 0) (da_cons (de_var 1) da_nil))) de_str (nomark _)) (dss_one ds_never) dss_nil)
      (dss_one (ds_ret (de_tup (da_cons (de_var 3) (da_cons (de_bin or_add (de_var 1) de_int) da_nil)))))))))
theorem ok_is_piece (T : Txt K mg C f fd) : FnOk P w K mg base (L2.CX P w) 2 (f 28) (fd 28) ["value"] (spF K F_is_piece) :=
  fn_den d_is_piece T.F_is_piece sc_is_piece gd_len gd_run fun cdv A outer s H E hr hp ho =>
    (dss_one (ds_ret (de_call' (ok_is_word T) (hr.mono (by decide)) T.g_is_word T.F_is_word.kp T.b_is_word hp (da_cons (de_var 0) (da_cons de_int da_nil)))))
theorem ok_read_piece (T : Txt K mg C f fd) : FnOk P w K mg base (L2.CX P w) 3 (f 29) (fd 29) ["words", "at"] (spF K F_read_piece) :=
  fn_den d_read_piece T.F_read_piece sc_read_piece gd_len gd_run fun cdv A outer s H E hr hp ho =>
    (dss_cons (ds_if (dt_not (dt_tru (de_call' (ok_is_piece T) (hr.mono (by decide)) T.g_is_piece T.F_is_piece.kp T.b_is_piece hp (da_cons (de_call' (ok_word T) (hr.mono (by decide)) T.g_word T.F_word.kp T.b_word hp (da_cons (de_var 0) (da_cons (de_var 1) da_nil))) da_nil)))) (dss_one ds_never) dss_nil)
      (dss_one (ds_ret (de_ix (de_var 0) (de_var 1)))))
theorem ok_read_compound (T : Txt K mg C f fd) {F : FDen} {l : Nat} (hl : 5 ≤ l) (G : FnOk P w K mg base (L2.CX P w) l (f 32) (fd 32) ["words", "at", "depth"] (spF K F)) : FnOk P w K mg base (L2.CX P w) (l + 2) (f 30) (fd 30) ["words", "at", "depth"] (spF K (F_read_compound F)) :=
  fn_den (d_read_compound F) T.F_read_compound sc_read_compound gd_len gd_run fun cdv A outer s H E hr hp ho =>
    (dss_cons (ds_set (i := 3) sc_read_compound.nd rfl (by first | exact Or.inl rfl | exact Or.inr rfl) (de_call' (ok_word T) (hr.mono (by omega)) T.g_word T.F_word.kp T.b_word hp (da_cons (de_var 0) (da_cons (de_var 1) da_nil))))
      (dss_cons (ds_if (dt_cmp (or_eq hr.units) (de_var 3) de_str (nomark _)) (dss_cons (ds_asg (.tup [4, 1]) (de_call' (ok_read_test T) (hr.mono (by omega)) T.g_read_test T.F_read_test.kp T.b_read_test hp (da_cons (de_var 0) (da_cons (de_bin or_add (de_var 1) de_int) da_nil))) (pg_tup rfl (pgs_cons (pg_name (i := 4) sc_read_compound.nd rfl (by first | exact Or.inl rfl | exact Or.inr rfl)) (pgs_cons (pg_name (i := 1) sc_read_compound.nd rfl (by first | exact Or.inl rfl | exact Or.inr rfl)) pgs_nil))))
      (dss_cons (ds_asg (.tup [5, 1]) (de_call' (ok_read_brackets T hl G) (hr.mono (by omega)) T.g_read_brackets T.F_read_brackets.kp T.b_read_brackets hp (da_cons (de_var 0) (da_cons (de_var 1) (da_cons (de_var 2) da_nil)))) (pg_tup rfl (pgs_cons (pg_name (i := 5) sc_read_compound.nd rfl (by first | exact Or.inl rfl | exact Or.inr rfl)) (pgs_cons (pg_name (i := 1) sc_read_compound.nd rfl (by first | exact Or.inl rfl | exact Or.inr rfl)) pgs_nil))))
      (dss_cons (ds_if (dt_cmp (or_ne hr.units) (de_call' (ok_word T) (hr.mono (by omega)) T.g_word T.F_word.kp T.b_word hp (da_cons (de_var 0) (da_cons (de_var 1) da_nil))) de_str (nomark _)) (dss_one ds_never) dss_nil)
      (dss_cons (ds_asg (.tup [6, 1]) (de_call' (ok_read_brackets T hl G) (hr.mono (by omega)) T.g_read_brackets T.F_read_brackets.kp T.b_read_brackets hp (da_cons (de_var 0) (da_cons (de_bin or_add (de_var 1) de_int) (da_cons (de_var 2) da_nil)))) (pg_tup rfl (pgs_cons (pg_name (i := 6) sc_read_compound.nd rfl (by first | exact Or.inl rfl | exact Or.inr rfl)) (pgs_cons (pg_name (i := 1) sc_read_compound.nd rfl (by first | exact Or.inl rfl | exact Or.inr rfl)) pgs_nil))))
      (dss_one (ds_ret (de_tup (da_cons (de_tup (da_cons (de_var 3) (da_cons (de_var 4) (da_cons (de_var 5) (da_cons (de_var 6) da_nil))))) (da_cons (de_var 1) da_nil))))))))) dss_nil)
      (dss_cons (ds_if (dt_cmp (or_eq hr.units) (de_var 3) de_str (nomark _)) (dss_cons (ds_set (i := 7) sc_read_compound.nd rfl (by first | exact Or.inl rfl | exact Or.inr rfl) (de_call' (ok_read_digit T) (hr.mono (by omega)) T.g_read_digit T.F_read_digit.kp T.b_read_digit hp (da_cons (de_var 0) (da_cons (de_bin or_add (de_var 1) de_int) (da_cons (de_gtup (by rfl) T.k_TIMES.choose_spec.1 T.k_TIMES.choose_spec.2 (fun _ _ => (.cons (.str _) (.cons (.str _) (.cons (.str _) (.cons (.str _) .nil)))))) da_nil)))))
      (dss_cons (ds_asg (.tup [8, 1]) (de_call' (ok_read_brackets T hl G) (hr.mono (by omega)) T.g_read_brackets T.F_read_brackets.kp T.b_read_brackets hp (da_cons (de_var 0) (da_cons (de_bin or_add (de_var 1) de_int) (da_cons (de_var 2) da_nil)))) (pg_tup rfl (pgs_cons (pg_name (i := 8) sc_read_compound.nd rfl (by first | exact Or.inl rfl | exact Or.inr rfl)) (pgs_cons (pg_name (i := 1) sc_read_compound.nd rfl (by first | exact Or.inl rfl | exact Or.inr rfl)) pgs_nil))))
      (dss_one (ds_ret (de_tup (da_cons (de_tup (da_cons (de_var 3) (da_cons (de_var 7) (da_cons (de_var 8) da_nil)))) (da_cons (de_var 1) da_nil))))))) dss_nil)
      (dss_cons (ds_if (dt_cmp (or_eq hr.units) (de_var 3) de_str (nomark _)) (dss_one (ds_ret (de_tup (da_cons (de_tup (da_cons (de_var 3) (da_cons (de_call' (ok_read_piece T) (hr.mono (by omega)) T.g_read_piece T.F_read_piece.kp T.b_read_piece hp (da_cons (de_var 0) (da_cons (de_bin or_add (de_var 1) de_int) da_nil))) da_nil))) (da_cons (de_bin or_add (de_var 1) de_int) da_nil))))) dss_nil)
      (dss_one ds_never)))))
theorem ok_read_step (T : Txt K mg C f fd) {F : FDen} {l : Nat} (hl : 5 ≤ l) (G : FnOk P w K mg base (L2.CX P w) l (f 32) (fd 32) ["words", "at", "depth"] (spF K F)) : FnOk P w K mg base (L2.CX P w) (l + 3) (f 31) (fd 31) ["words", "at", "depth"] (spF K (F_read_step F)) :=
  fn_den (d_read_step F) T.F_read_step sc_read_step gd_len gd_run fun cdv A outer s H E hr hp ho =>
    (dss_cons (ds_set (i := 3) sc_read_step.nd rfl (by first | exact Or.inl rfl | exact Or.inr rfl) (de_call' (ok_word T) (hr.mono (by omega)) T.g_word T.F_word.kp T.b_word hp (da_cons (de_var 0) (da_cons (de_var 1) da_nil))))
      (dss_cons (ds_if (dt_cmp or_in (de_var 3) (de_tup (da_cons de_str (da_cons de_str da_nil))) (by rfl)) (dss_one (ds_ret (de_tup (da_cons (de_tup (da_cons (de_var 3) da_nil)) (da_cons (de_bin or_add (de_var 1) de_int) da_nil))))) dss_nil)
      (dss_cons (ds_if (dt_cmp or_in (de_var 3) (de_tup (da_cons de_str (da_cons de_str (da_cons de_str da_nil)))) (by rfl)) (dss_one (ds_ret (de_tup (da_cons (de_tup (da_cons (de_var 3) (da_cons (de_call' (ok_read_name T) (hr.mono (by omega)) T.g_read_name T.F_read_name.kp T.b_read_name hp (da_cons (de_var 0) (da_cons (de_bin or_add (de_var 1) de_int) da_nil))) da_nil))) (da_cons (de_bin or_add (de_var 1) de_int) da_nil))))) dss_nil)
      (dss_cons (ds_if (dt_cmp (or_eq hr.units) (de_var 3) de_str (nomark _)) (dss_one (ds_ret (de_tup (da_cons (de_tup (da_cons (de_var 3) (da_cons (de_call' (ok_read_name T) (hr.mono (by omega)) T.g_read_name T.F_read_name.kp T.b_read_name hp (da_cons (de_var 0) (da_cons (de_bin or_add (de_var 1) de_int) da_nil))) (da_cons (de_call' (ok_read_name T) (hr.mono (by omega)) T.g_read_name T.F_read_name.kp T.b_read_name hp (da_cons (de_var 0) (da_cons (de_bin or_add (de_var 1) de_int) da_nil))) da_nil)))) (da_cons (de_bin or_add (de_var 1) de_int) da_nil))))) dss_nil)
      (dss_cons (ds_if (dt_cmp (or_eq hr.units) (de_var 3) de_str (nomark _)) (dss_cons (ds_set (i := 4) sc_read_step.nd rfl (by first | exact Or.inl rfl | exact Or.inr rfl) (de_call' (ok_read_name T) (hr.mono (by omega)) T.g_read_name T.F_read_name.kp T.b_read_name hp (da_cons (de_var 0) (da_cons (de_bin or_add (de_var 1) de_int) da_nil))))
      (dss_cons (ds_asg (.tup [5, 1]) (de_call' (ok_read_group T) (hr.mono (by omega)) T.g_read_group T.F_read_group.kp T.b_read_group hp (da_cons (de_var 0) (da_cons (de_bin or_add (de_var 1) de_int) da_nil))) (pg_tup rfl (pgs_cons (pg_name (i := 5) sc_read_step.nd rfl (by first | exact Or.inl rfl | exact Or.inr rfl)) (pgs_cons (pg_name (i := 1) sc_read_step.nd rfl (by first | exact Or.inl rfl | exact Or.inr rfl)) pgs_nil))))
      (dss_one (ds_ret (de_tup (da_cons (de_tup (da_cons (de_var 3) (da_cons (de_var 4) (da_cons (de_var 5) da_nil)))) (da_cons (de_var 1) da_nil))))))) dss_nil)
      (dss_cons (ds_if (dt_cmp (or_eq hr.units) (de_var 3) de_str (nomark _)) (dss_cons (ds_asg (.tup [5, 1]) (de_call' (ok_read_group T) (hr.mono (by omega)) T.g_read_group T.F_read_group.kp T.b_read_group hp (da_cons (de_var 0) (da_cons (de_bin or_add (de_var 1) de_int) da_nil))) (pg_tup rfl (pgs_cons (pg_name (i := 5) sc_read_step.nd rfl (by first | exact Or.inl rfl | exact Or.inr rfl)) (pgs_cons (pg_name (i := 1) sc_read_step.nd rfl (by first | exact Or.inl rfl | exact Or.inr rfl)) pgs_nil))))
      (dss_one (ds_ret (de_tup (da_cons (de_tup (da_cons (de_var 3) (da_cons (de_var 5) da_nil))) (da_cons (de_var 1) da_nil)))))) dss_nil)
      (dss_cons (ds_if (dt_cmp (or_eq hr.units) (de_var 3) de_str (nomark _)) (dss_cons (ds_asg (.tup [6, 1]) (de_call' (ok_read_bases T) (hr.mono (by omega)) T.g_read_bases T.F_read_bases.kp T.b_read_bases hp (da_cons (de_var 0) (da_cons (de_bin or_add (de_var 1) de_int) da_nil))) (pg_tup rfl (pgs_cons (pg_name (i := 6) sc_read_step.nd rfl (by first | exact Or.inl rfl | exact Or.inr rfl)) (pgs_cons (pg_name (i := 1) sc_read_step.nd rfl (by first | exact Or.inl rfl | exact Or.inr rfl)) pgs_nil))))
      (dss_one (ds_ret (de_tup (da_cons (de_tup (da_cons (de_var 3) (da_cons (de_var 6) da_nil))) (da_cons (de_var 1) da_nil)))))) dss_nil)
      (dss_one (ds_ret (de_call' (ok_read_compound T hl G) (hr.mono (by omega)) T.g_read_compound T.F_read_compound.kp T.b_read_compound hp (da_cons (de_var 0) (da_cons (de_var 1) (da_cons (de_var 2) da_nil)))))))))))))
theorem ok_read_some (T : Txt K mg C f fd) : ∀ n : Nat, FnOk P w K mg base (L2.CX P w) (5 + 4 * n) (f 32) (fd 32) ["words", "at", "depth"] (spF K (F_read_some n))
  | 0 => fn_void
  | n + 1 => have G := ok_read_some T n
    have hl : 5 ≤ 5 + 4 * n := Nat.le_add_right _ _
    (fn_den (k := 5 + 4 * n + 3) (d_read_some (F_read_some n)) T.F_read_some sc_read_some gd_len gd_run fun cdv A outer s H E hr hp ho =>
      (dss_cons (ds_asg (.tup [3, 1]) (de_call' (ok_read_step T hl G) (hr.mono (by omega)) T.g_read_step T.F_read_step.kp T.b_read_step hp (da_cons (de_var 0) (da_cons (de_var 1) (da_cons (de_var 2) da_nil)))) (pg_tup rfl (pgs_cons (pg_name (i := 3) sc_read_some.nd rfl (by first | exact Or.inl rfl | exact Or.inr rfl)) (pgs_cons (pg_name (i := 1) sc_read_some.nd rfl (by first | exact Or.inl rfl | exact Or.inr rfl)) pgs_nil))))
      (dss_cons (ds_set (i := 4) sc_read_some.nd rfl (by first | exact Or.inl rfl | exact Or.inr rfl) (de_tup (da_cons (de_var 3) da_nil)))
      (dss_cons (ds_while ho (dt_cmp (or_eq hr.units) (de_call' (ok_word T) (hr.mono (by omega)) T.g_word T.F_word.kp T.b_word hp (da_cons (de_var 0) (da_cons (de_var 1) da_nil))) de_str (nomark _)) (dss_cons (ds_asg (.tup [3, 1]) (de_call' (ok_read_step T hl G) (hr.mono (by omega)) T.g_read_step T.F_read_step.kp T.b_read_step hp (da_cons (de_var 0) (da_cons (de_bin or_add (de_var 1) de_int) (da_cons (de_var 2) da_nil)))) (pg_tup rfl (pgs_cons (pg_name (i := 3) sc_read_some.nd rfl (by first | exact Or.inl rfl | exact Or.inr rfl)) (pgs_cons (pg_name (i := 1) sc_read_some.nd rfl (by first | exact Or.inl rfl | exact Or.inr rfl)) pgs_nil))))
      (dss_one (ds_set (i := 4) sc_read_some.nd rfl (by first | exact Or.inl rfl | exact Or.inr rfl) (de_bin or_add (de_var 4) (de_tup (da_cons (de_var 3) da_nil)))))))
      (dss_one (ds_ret (de_tup (da_cons (de_var 4) (da_cons (de_var 1) da_nil))))))))).mono (by omega)
theorem ok_read_steps (T : Txt K mg C f fd) : FnOk P w K mg base (L2.CX P w) 102 (f 33) (fd 33) ["text"] (spF K F_read_steps) :=
  fn_den d_read_steps T.F_read_steps sc_read_steps gd_len gd_run fun cdv A outer s H E hr hp ho =>
    (dss_cons (ds_if (dt_not (dt_tru (de_isi .str T.z_isinstance T.z_str (by decide +kernel) (de_var 0)))) (dss_one ds_never) dss_nil)
      (dss_cons (ds_if (dt_cmp (or_eq hr.units) (de_var 0) de_str (nomark _)) (dss_one (ds_ret (de_tup da_nil))) dss_nil)
      (dss_cons (ds_set (i := 1) sc_read_steps.nd rfl (by first | exact Or.inl rfl | exact Or.inr rfl) (de_split (de_var 0) rfl))
      (dss_cons (ds_asg (.tup [2, 3]) (de_call' (ok_read_some T 24) (hr.mono (by decide)) T.g_read_some T.F_read_some.kp T.b_read_some hp (da_cons (de_var 1) (da_cons de_int (da_cons de_int da_nil)))) (pg_tup rfl (pgs_cons (pg_name (i := 2) sc_read_steps.nd rfl (by first | exact Or.inl rfl | exact Or.inr rfl)) (pgs_cons (pg_name (i := 3) sc_read_steps.nd rfl (by first | exact Or.inl rfl | exact Or.inr rfl)) pgs_nil))))
      (dss_cons (ds_if (dt_cmp or_lt (de_var 3) (de_blt cr_len T.z_len PySem.boot_len (da_cons (de_var 1) da_nil)) (nomark _)) (dss_one ds_never) dss_nil)
      (dss_one (ds_ret (de_var 2))))))))
theorem ok_words_of_bases (T : Txt K mg C f fd) : FnOk P w K mg base (L2.CX P w) 1 (f 34) (fd 34) ["bases"] (spF K F_words_of_bases) :=
  fn_den d_words_of_bases T.F_words_of_bases sc_words_of_bases gd_len gd_run fun cdv A outer s H E hr hp ho =>
    (dss_cons (ds_set (i := 1) sc_words_of_bases.nd rfl (by first | exact Or.inl rfl | exact Or.inr rfl) (de_lst da_nil))
      (dss_cons (ds_for (.tup [2, 3]) ho rfl (di_enum2 T.z_enumerate (da_cons (de_var 0) da_nil)) (pg_tup rfl (pgs_cons (pg_name (i := 2) sc_words_of_bases.nd rfl (by first | exact Or.inl rfl | exact Or.inr rfl)) (pgs_cons (pg_name (i := 3) sc_words_of_bases.nd rfl (by first | exact Or.inl rfl | exact Or.inr rfl)) pgs_nil))) (dss_cons (ds_if (dt_cmp or_gt (de_var 2) de_int (nomark _)) (dss_one (ds_set (i := 1) sc_words_of_bases.nd rfl (by first | exact Or.inl rfl | exact Or.inr rfl) (de_bin or_add (de_var 1) (de_lst (da_cons de_str da_nil))))) dss_nil)
      (dss_one (ds_set (i := 1) sc_words_of_bases.nd rfl (by first | exact Or.inl rfl | exact Or.inr rfl) (de_bin or_add (de_var 1) (de_ty cr_list T.z_list (by decide +kernel) (da_cons (de_var 3) da_nil)))))))
      (dss_one (ds_ret (de_var 1)))))
theorem ok_in_brackets (T : Txt K mg C f fd) {F : FDen} {l : Nat} (hl : 2 ≤ l) (G : FnOk P w K mg base (L2.CX P w) l (f 38) (fd 38) ["steps"] (spF K F)) : FnOk P w K mg base (L2.CX P w) (l + 1) (f 35) (fd 35) ["steps"] (spF K (F_in_brackets F)) :=
  fn_den (d_in_brackets F) T.F_in_brackets sc_in_brackets gd_len gd_run fun cdv A outer s H E hr hp ho =>
    (dss_one (ds_ret (de_bin or_add (de_bin or_add (de_lst (da_cons de_str da_nil)) (de_call' G (hr.mono (by omega)) T.g_words_of_steps T.F_words_of_steps.kp T.b_words_of_steps hp (da_cons (de_var 0) da_nil))) (de_lst (da_cons de_str da_nil)))))
theorem ok_words_of_test (T : Txt K mg C f fd) : FnOk P w K mg base (L2.CX P w) 1 (f 36) (fd 36) ["test"] (spF K F_words_of_test) :=
  fn_den d_words_of_test T.F_words_of_test sc_words_of_test gd_len gd_run fun cdv A outer s H E hr hp ho =>
    (dss_cons (ds_if (dt_cmp (or_eq hr.units) (de_ix (de_var 0) de_int) de_str (nomark _)) (dss_one (ds_ret (de_bin or_add (de_lst (da_cons de_str (da_cons (de_ty cr_str2 T.z_str (by decide +kernel) (da_cons (de_ix (de_var 0) de_int) da_nil)) da_nil))) (de_ty cr_list T.z_list (by decide +kernel) (da_cons (de_ix (de_var 0) de_int) da_nil))))) dss_nil)
      (dss_cons (ds_if (dt_cmp (or_eq hr.units) (de_ix (de_var 0) de_int) de_str (nomark _)) (dss_one (ds_ret (de_bin or_add (de_lst (da_cons de_str (da_cons (de_ix (de_var 0) de_int) da_nil))) (de_ty cr_list T.z_list (by decide +kernel) (da_cons (de_ix (de_var 0) de_int) da_nil))))) dss_nil)
      (dss_one (ds_ret (de_lst (da_cons de_str da_nil))))))
theorem ok_words_of_step (T : Txt K mg C f fd) {F : FDen} {l : Nat} (hl : 2 ≤ l) (G : FnOk P w K mg base (L2.CX P w) l (f 38) (fd 38) ["steps"] (spF K F)) : FnOk P w K mg base (L2.CX P w) (l + 2) (f 37) (fd 37) ["step"] (spF K (F_words_of_step F)) :=
  fn_den (d_words_of_step F) T.F_words_of_step sc_words_of_step gd_len gd_run fun cdv A outer s H E hr hp ho =>
    (dss_cons (ds_if (dt_cmp (or_eq hr.units) (de_ix (de_var 0) de_int) de_str (nomark _)) (dss_one (ds_ret (de_bin or_add (de_lst (da_cons de_str (da_cons (de_ix (de_var 0) de_int) da_nil))) (de_ty cr_list T.z_list (by decide +kernel) (da_cons (de_ix (de_var 0) de_int) da_nil))))) dss_nil)
      (dss_cons (ds_if (dt_cmp (or_eq hr.units) (de_ix (de_var 0) de_int) de_str (nomark _)) (dss_one (ds_ret (de_bin or_add (de_lst (da_cons de_str da_nil)) (de_ty cr_list T.z_list (by decide +kernel) (da_cons (de_ix (de_var 0) de_int) da_nil))))) dss_nil)
      (dss_cons (ds_if (dt_cmp (or_eq hr.units) (de_ix (de_var 0) de_int) de_str (nomark _)) (dss_one (ds_ret (de_bin or_add (de_lst (da_cons de_str da_nil)) (de_call' (ok_words_of_bases T) (hr.mono (by omega)) T.g_words_of_bases T.F_words_of_bases.kp T.b_words_of_bases hp (da_cons (de_ix (de_var 0) de_int) da_nil))))) dss_nil)
      (dss_cons (ds_if (dt_cmp (or_eq hr.units) (de_ix (de_var 0) de_int) de_str (nomark _)) (dss_cons (ds_par (i := 1) (j := 2) sc_words_of_step.nd (da_cons (de_call' (ok_in_brackets T hl G) (hr.mono (by omega)) T.g_in_brackets T.F_in_brackets.kp T.b_in_brackets hp (da_cons (de_ix (de_var 0) de_int) da_nil)) (da_cons (de_call' (ok_in_brackets T hl G) (hr.mono (by omega)) T.g_in_brackets T.F_in_brackets.kp T.b_in_brackets hp (da_cons (de_ix (de_var 0) de_int) da_nil)) da_nil)))
      (dss_one (ds_ret (de_bin or_add (de_bin or_add (de_bin or_add (de_bin or_add (de_lst (da_cons de_str da_nil)) (de_call' (ok_words_of_test T) (hr.mono (by omega)) T.g_words_of_test T.F_words_of_test.kp T.b_words_of_test hp (da_cons (de_ix (de_var 0) de_int) da_nil))) (de_var 1)) (de_lst (da_cons de_str da_nil))) (de_var 2))))) dss_nil)
      (dss_cons (ds_if (dt_cmp (or_eq hr.units) (de_ix (de_var 0) de_int) de_str (nomark _)) (dss_one (ds_ret (de_bin or_add (de_lst (da_cons de_str (da_cons (de_ty cr_str2 T.z_str (by decide +kernel) (da_cons (de_ix (de_var 0) de_int) da_nil)) da_nil))) (de_call' (ok_in_brackets T hl G) (hr.mono (by omega)) T.g_in_brackets T.F_in_brackets.kp T.b_in_brackets hp (da_cons (de_ix (de_var 0) de_int) da_nil))))) dss_nil)
      (dss_one (ds_ret (de_ty cr_list T.z_list (by decide +kernel) (da_cons (de_var 0) da_nil)))))))))
theorem ok_words_of_steps (T : Txt K mg C f fd) : ∀ n : Nat, FnOk P w K mg base (L2.CX P w) (2 + 3 * n) (f 38) (fd 38) ["steps"] (spF K (F_words_of_steps n))
  | 0 => fn_void
  | n + 1 => have G := ok_words_of_steps T n
    have hl : 2 ≤ 2 + 3 * n := Nat.le_add_right _ _
    (fn_den (k := 2 + 3 * n + 2) (d_words_of_steps (F_words_of_steps n)) T.F_words_of_steps sc_words_of_steps gd_len gd_run fun cdv A outer s H E hr hp ho =>
      (dss_cons (ds_set (i := 1) sc_words_of_steps.nd rfl (by first | exact Or.inl rfl | exact Or.inr rfl) (de_lst da_nil))
      (dss_cons (ds_for (.tup [2, 3]) ho rfl (di_enum2 T.z_enumerate (da_cons (de_var 0) da_nil)) (pg_tup rfl (pgs_cons (pg_name (i := 2) sc_words_of_steps.nd rfl (by first | exact Or.inl rfl | exact Or.inr rfl)) (pgs_cons (pg_name (i := 3) sc_words_of_steps.nd rfl (by first | exact Or.inl rfl | exact Or.inr rfl)) pgs_nil))) (dss_cons (ds_if (dt_cmp or_gt (de_var 2) de_int (nomark _)) (dss_one (ds_set (i := 1) sc_words_of_steps.nd rfl (by first | exact Or.inl rfl | exact Or.inr rfl) (de_bin or_add (de_var 1) (de_lst (da_cons de_str da_nil))))) dss_nil)
      (dss_one (ds_set (i := 1) sc_words_of_steps.nd rfl (by first | exact Or.inl rfl | exact Or.inr rfl) (de_bin or_add (de_var 1) (de_call' (ok_words_of_step T hl G) (hr.mono (by omega)) T.g_words_of_step T.F_words_of_step.kp T.b_words_of_step hp (da_cons (de_var 3) da_nil)))))))
      (dss_one (ds_ret (de_var 1)))))).mono (by omega)
theorem ok_text_of (T : Txt K mg C f fd) : FnOk P w K mg base (L2.CX P w) 27 (f 39) (fd 39) ["steps"] (spF K F_text_of) :=
  fn_den d_text_of T.F_text_of sc_text_of gd_len gd_run fun cdv A outer s H E hr hp ho =>
    (dss_one (ds_ret (de_join de_str (de_call' (ok_words_of_steps T 8) (hr.mono (by decide)) T.g_words_of_steps T.F_words_of_steps.kp T.b_words_of_steps hp (da_cons (de_var 0) da_nil)) (hstr := fun _ _ _ _ h => by cases h; exact ⟨_, rfl⟩))))
theorem ok_law (T : Txt K mg C f fd) : FnOk P w K mg base (L2.CX P w) 103 (f 40) (fd 40) ["_law_script"] (spF K F_law) :=
  fn_den d_law T.F_law sc_law gd_len gd_run fun cdv A outer s H E hr hp ho =>
    (dss_cons (ds_set (i := 1) sc_law.nd rfl (by first | exact Or.inl rfl | exact Or.inr rfl) (de_call' (ok_l_bag T) (hr.mono (by decide)) T.g_l_bag T.F_l_bag.kp T.b_l_bag hp (da_cons (de_var 0) da_nil)))
      (dss_cons (ds_for (.one 2) ho rfl (di_range1 T.z_range (da_cons de_int da_nil)) (pg_name (i := 2) sc_law.nd rfl (by first | exact Or.inl rfl | exact Or.inr rfl)) (dss_cons (ds_set (i := 7) sc_law.nd rfl (by first | exact Or.inl rfl | exact Or.inr rfl) (de_call' (ok_l_mixed T) (hr.mono (by decide)) T.g_l_mixed T.F_l_mixed.kp T.b_l_mixed hp (da_cons (de_var 1) (da_cons (de_call' (ok_l_names T) (hr.mono (by decide)) T.g_l_names T.F_l_names.kp T.b_l_names hp (da_cons (de_var 1) (da_cons de_int da_nil))) da_nil))))
      (dss_cons (ds_set (i := 8) sc_law.nd rfl (by first | exact Or.inl rfl | exact Or.inr rfl) (de_call' (ok_l_all_steps T) (hr.mono (by decide)) T.g_l_all_steps T.F_l_all_steps.kp T.b_l_all_steps hp (da_cons (de_var 1) (da_cons (de_sl (de_var 7) do_no (do_so (de_call' (ok_l_pull T) (hr.mono (by decide)) T.g_l_pull T.F_l_pull.kp T.b_l_pull hp (da_cons (de_var 1) (da_cons de_int da_nil))))) (da_cons (de_sl (de_var 7) (do_so de_int) (do_so (de_bin or_add de_int (de_call' (ok_l_pull T) (hr.mono (by decide)) T.g_l_pull T.F_l_pull.kp T.b_l_pull hp (da_cons (de_var 1) (da_cons de_int da_nil)))))) da_nil)))))
      (dss_cons (ds_set (i := 4) sc_law.nd rfl (by first | exact Or.inl rfl | exact Or.inr rfl) (de_call' (ok_l_text T) (hr.mono (by decide)) T.g_l_text T.F_l_text.kp T.b_l_text hp (da_cons (de_var 8) da_nil)))
      (dss_cons (ds_if (dt_not (dt_tru (de_call' (ok_l_same T 48) (hr.mono (by decide)) T.g_l_same T.F_l_same.kp T.b_l_same hp (da_cons (de_lst (da_cons (de_call' (ok_read_steps T) (hr.mono (by decide)) T.g_read_steps T.F_read_steps.kp T.b_read_steps hp (da_cons (de_var 4) da_nil)) (da_cons (de_callK0 (is := [0]) (ok_read_steps T) (hr.mono (by decide)) T.g_read_steps T.F_read_steps.kp T.kb_read_steps_0 hp (dk_cons (de_call' (ok_text_of T) (hr.mono (by decide)) T.g_text_of T.F_text_of.kp T.b_text_of hp (da_cons (de_var 8) da_nil)) dk_nil)) da_nil))) (da_cons (de_lst (da_cons (de_var 8) (da_cons (de_var 8) da_nil))) da_nil))))) (dss_one (ds_ret de_bl)) dss_nil)
      (dss_one (ds_if (dt_cmp (or_ne hr.units) (de_call' (ok_text_of T) (hr.mono (by decide)) T.g_text_of T.F_text_of.kp T.b_text_of hp (da_cons (de_call' (ok_read_steps T) (hr.mono (by decide)) T.g_read_steps T.F_read_steps.kp T.b_read_steps hp (da_cons (de_var 4) da_nil)) da_nil)) (de_var 4) (nomark _)) (dss_one (ds_ret de_bl)) dss_nil)))))))
      (dss_cons (ds_asg (.tup [3, 4]) (de_tup (da_cons (de_tup da_nil) (da_cons de_str da_nil))) (pg_tup rfl (pgs_cons (pg_name (i := 3) sc_law.nd rfl (by first | exact Or.inl rfl | exact Or.inr rfl)) (pgs_cons (pg_name (i := 4) sc_law.nd rfl (by first | exact Or.inl rfl | exact Or.inr rfl)) pgs_nil))))
      (dss_cons (ds_for (.one 5) ho rfl (di_range1 T.z_range (da_cons de_int da_nil)) (pg_name (i := 5) sc_law.nd rfl (by first | exact Or.inl rfl | exact Or.inr rfl)) (dss_one (ds_par (i := 3) (j := 4) sc_law.nd (da_cons (de_tup (da_cons (de_tup (da_cons de_str (da_cons de_int (da_cons (de_var 3) da_nil)))) da_nil)) (da_cons (de_bin or_add (de_bin or_add de_str (de_if (dt_cmp (or_ne hr.units) (de_var 4) de_str (nomark _)) (de_bin or_add (de_var 4) de_str) de_str)) de_str) da_nil)))))
      (dss_cons (ds_if (dt_not (dt_tru (de_call' (ok_l_same T 48) (hr.mono (by decide)) T.g_l_same T.F_l_same.kp T.b_l_same hp (da_cons (de_call' (ok_read_steps T) (hr.mono (by decide)) T.g_read_steps T.F_read_steps.kp T.b_read_steps hp (da_cons (de_var 4) da_nil)) (da_cons (de_var 3) da_nil))))) (dss_one (ds_ret de_bl)) dss_nil)
      (dss_cons (ds_set (i := 6) sc_law.nd rfl (by first | exact Or.inl rfl | exact Or.inr rfl) (de_lst (da_cons (de_call' (ok_read_steps T) (hr.mono (by decide)) T.g_read_steps T.F_read_steps.kp T.b_read_steps hp (da_cons de_str da_nil)) (da_cons (de_call' (ok_read_steps T) (hr.mono (by decide)) T.g_read_steps T.F_read_steps.kp T.b_read_steps hp (da_cons de_str da_nil)) (da_cons (de_call' (ok_read_steps T) (hr.mono (by decide)) T.g_read_steps T.F_read_steps.kp T.b_read_steps hp (da_cons de_str da_nil)) (da_cons (de_call' (ok_read_steps T) (hr.mono (by decide)) T.g_read_steps T.F_read_steps.kp T.b_read_steps hp (da_cons de_str da_nil)) (da_cons (de_call' (ok_read_steps T) (hr.mono (by decide)) T.g_read_steps T.F_read_steps.kp T.b_read_steps hp (da_cons de_str da_nil)) da_nil)))))))
      (dss_one (ds_ret (de_call' (ok_l_same T 48) (hr.mono (by decide)) T.g_l_same T.F_l_same.kp T.b_l_same hp (da_cons (de_var 6) (da_cons (de_lst (da_cons (de_tup da_nil) (da_cons (de_tup (da_cons (de_tup (da_cons de_str (da_cons (de_tup (da_cons (de_tup da_nil) da_nil)) da_nil))) da_nil)) (da_cons (de_tup (da_cons (de_tup (da_cons de_str (da_cons (de_tup (da_cons (de_tup da_nil) (da_cons (de_tup (da_cons de_str da_nil)) da_nil))) da_nil))) da_nil)) (da_cons (de_tup (da_cons (de_tup (da_cons de_str (da_cons (de_tup (da_cons de_str da_nil)) da_nil))) (da_cons (de_tup (da_cons de_str (da_cons de_str da_nil))) da_nil))) (da_cons (de_tup (da_cons (de_tup (da_cons de_str da_nil)) da_nil)) da_nil)))))) da_nil)))))))))))
end
end Dn

set_option Elab.async false
set_option linter.all false
set_option maxRecDepth 100000
set_option maxHeartbeats 4000000
namespace Dn
open PySem PySem.Spec PyProof.Rows L2
/-! ### reading denotations -/
section
variable {α β : Type} {a : α} {st st1 : Sta} {k : α → Sta → Mo β} {Δ : Dl}
theorem bd_ok : bd (some (.ok a, st)) k = k a st := rfl
theorem omap_some {f : α → β} : Option.map f (some a) = some (f a) := rfl
theorem obind_some {f : α → Option β} : Option.bind (some a) f = f a := rfl
theorem if_t {x y : α} : (if true = true then x else y) = x := if_pos rfl
theorem if_f {x y : α} : (if false = true then x else y) = y := if_neg Bool.false_ne_true
end
/-- a list made of pure items -/
theorem lc_pure {t : Tgt} {te : EDen} {Δ : Dl} {st : Sta} (g : D → D) : ∀ (ds acc : List D), (∀ d ∈ ds, ∃ Δ1, t.put d Δ = some Δ1 ∧ te Δ1 st = some (.ok (g d), st)) → acc.length + ds.length ≤ big →
    lcGo t yesT te Δ ds st acc = some (.ok (.lst (acc ++ ds.map g)), st)
  | [], acc, _, _ => by simp [lcGo]
  | d :: ds, acc, h, hl => by
    obtain ⟨Δ1, h1, h2⟩ := h d List.mem_cons_self
    rw [List.length_cons] at hl
    unfold lcGo
    rw [h1, obind_some]
    show (match te Δ1 st with | some (.ok y, st2) => if acc.length < big then lcGo t yesT te Δ ds st2 (acc ++ [y]) else none | _ => none) = _
    rw [h2]
    simp only
    rw [if_pos (by omega), lc_pure g ds (acc ++ [g d]) (fun x hx => h x (List.mem_cons_of_mem _ hx)) (by rw [List.length_append, List.length_singleton]; omega), List.append_assoc] <;> rfl
theorem bls_map (bs : List Bool) : bls (bs.map .bl) = some bs := by
  induction bs with
  | nil => rfl
  | cons b bs ih => simp only [List.map_cons, bls, ih, Option.map]
def lowC (c : Nat) : Bool := decide (97 ≤ c) && decide (c ≤ 122)
def lowS (z : Str) : Bool := z.cps.toList.all lowC
theorem sLt_one (a b : Nat) : sLt ⟨#[a]⟩ ⟨#[b]⟩ = decide (a < b) := by
  unfold sLt
  simp only [List.cons_lt_cons_iff]
  simp
theorem leD_i (i j : Int) : leD (.int i) (.int j) = some (.bl (decide (i ≤ j))) := rfl
theorem leD_s (x y : Str) : leD (.str x) (.str y) = some (.bl (!sLt y x)) := rfl
theorem ltD_i (i j : Int) : ltD (.int i) (.int j) = some (.bl (decide (i < j))) := rfl
theorem ltD_s (x y : Str) : ltD (.str x) (.str y) = some (.bl (sLt x y)) := rfl
theorem gtD_i (i j : Int) : gtD (.int i) (.int j) = some (.bl (decide (j < i))) := rfl
theorem geD_i (i j : Int) : geD (.int i) (.int j) = some (.bl (decide (j ≤ i))) := rfl
theorem addD_i (i j : Int) : addD (.int i) (.int j) = some (.int (i + j)) := rfl
theorem subD_i (i j : Int) : subD (.int i) (.int j) = some (.int (i - j)) := rfl
theorem mulD_i (i j : Int) : mulD (.int i) (.int j) = (mulI i j).map .int := rfl
theorem lb0 : (0 ≤ big) = True := eq_true (by decide)
theorem lb1 : (1 ≤ big) = True := eq_true (by decide)
theorem lb2 : (2 ≤ big) = True := eq_true (by decide)
theorem lb3 : (3 ≤ big) = True := eq_true (by decide)
theorem lb4 : (4 ≤ big) = True := eq_true (by decide)
theorem lb5 : (5 ≤ big) = True := eq_true (by decide)
theorem lb6 : (6 ≤ big) = True := eq_true (by decide)
theorem lb7 : (7 ≤ big) = True := eq_true (by decide)
theorem lb8 : (8 ≤ big) = True := eq_true (by decide)
theorem lb9 : (9 ≤ big) = True := eq_true (by decide)
theorem lb10 : (10 ≤ big) = True := eq_true (by decide)
theorem lb11 : (11 ≤ big) = True := eq_true (by decide)
theorem lb12 : (12 ≤ big) = True := eq_true (by decide)
theorem s_a : Str.ofString "a" = ⟨#[97]⟩ := rfl
theorem s_z : Str.ofString "z" = ⟨#[122]⟩ := rfl
theorem sLt_a (c : Nat) : (!sLt ⟨#[c]⟩ ⟨#[97]⟩) = decide (97 ≤ c) := by
  rw [sLt_one, Bool.eq_iff_iff, Bool.not_eq_true', decide_eq_false_iff_not, decide_eq_true_eq]
  omega
theorem sLt_z (c : Nat) : (!sLt ⟨#[122]⟩ ⟨#[c]⟩) = decide (c ≤ 122) := by
  rw [sLt_one, Bool.eq_iff_iff, Bool.not_eq_true', decide_eq_false_iff_not, decide_eq_true_eq]
  omega
def lowD : D → D
  | .str z => .bl (lowC (z.cps.getD 0 0))
  | d => d
end Dn

set_option Elab.async false
set_option linter.all false
set_option maxRecDepth 100000
set_option maxHeartbeats 4000000
namespace Dn
open PySem PySem.Spec PyProof.Rows L2
theorem eqD_i (i j : Int) : eqD (.int i) (.int j) = some (.bl (i == j)) := rfl
theorem pw18 : intD powI (.int 10) (.int 18) = some (.int 1000000000000000000) := by
  show (powI 10 18).map D.int = _
  have : powI 10 18 = some 1000000000000000000 := by decide +kernel
  rw [this] <;> rfl
theorem mulK (i j : Int) (h : -two64 < j ∧ j < two64) : mulI i j = some (i * j) := if_pos (.inr h)
theorem mulS (i j : Int) (h : -two64 < i ∧ i < two64) : mulI i j = some (i * j) := if_pos (.inl h)
theorem modD (i j : Int) (h : 0 < j) : intD modI (.int i) (.int j) = some (.int (i % j)) := by
  show (modI i j).map D.int = _
  rw [show modI i j = some (i % j) from if_pos h] <;> rfl
theorem fdivD (i j : Int) (h : 0 < j ∧ j < 1073741824) : intD fdivI (.int i) (.int j) = some (.int (i / j)) := by
  show (fdivI i j).map D.int = _
  rw [show fdivI i j = some (i / j) from if_pos h] <;> rfl
def okB (b : BagSt) : Prop := 0 ≤ b.seed ∧ b.seed < 4294967296
theorem ixI (cs : List Int) (n : Nat) (h : n < cs.length) : ixD (.lst (cs.map D.int)) (.int n) = some (.int cs[n]) := by
  show atI _ _ = _
  unfold atI ixN
  rw [List.length_map, if_pos (by omega), if_pos (by omega)]
  simp [h]
theorem sq_step {t u : SDen} {Δ Δ1 : Dl} {st st1 : Sta} {r : Mo Out} (h : t Δ st = some (.ok (.nx Δ1), st1)) (h2 : u Δ1 st1 = r) : sqP t u Δ st = r := by
  unfold sqP
  rw [h]
  exact h2
theorem sq_ret {t u : SDen} {Δ : Dl} {st st1 : Sta} {d : D} (h : t Δ st = some (.ok (.rt d), st1)) : sqP t u Δ st = some (.ok (.rt d), st1) := by
  unfold sqP
  rw [h] <;> rfl
theorem run_ret {t : SDen} {n k : Nat} {ds : List D} {st st1 : Sta} {d : D} (hk : ds.length = k) (h : t (ds.map some ++ List.replicate (n - ds.length) none) st = some (.ok (.rt d), st1)) : gd k (runD t n) ds st = some (.ok d, st1) := by
  unfold gd runD
  rw [if_pos hk, h] <;> rfl
theorem if_tt {α : Type} {c : TDen} {a b : Den α} {Δ : Dl} {st st1 : Sta} {r : Mo α} (h : c Δ st = some (.ok true, st1)) (h2 : a Δ st1 = r) : ifP c a b Δ st = r := by
  unfold ifP
  rw [h]
  exact h2
theorem if_ff {α : Type} {c : TDen} {a b : Den α} {Δ : Dl} {st st1 : Sta} {r : Mo α} (h : c Δ st = some (.ok false, st1)) (h2 : b Δ st1 = r) : ifP c a b Δ st = r := by
  unfold ifP
  rw [h]
  exact h2
/-- the second half of a draw -/
theorem pull_tail (cells : List Int) (at_ : Nat) (rest seed cnt : Int) (x3 : Option D) (scr : Option (Addr × List Int)) (own : List (Nat × Cell)) (nx : Nat) (m : Int) (hb1 : 0 ≤ seed) (hb2 : seed < 4294967296) (h1 : 0 < m) (h2 : m < 1073741824) (u : SDen) (v : SDen)
    (hu : u = (ifP (tstP (binP gtD (bagIx 0 2) (cstP (.int 0)))) (sqP (asP (.one 4) (binP (intD modI) (bltP intF (consP (bagIx 0 2) nilP)) (varP 1))) (sqP (bagSet 0 2 (binP (intD fdivI) (bagIx 0 2) (varP 1))) (rtP (varP 4)))) nxP))
    (hv : v = (sqP (bagSet 0 4 (binP addD (bagIx 0 4) (cstP (.int 1)))) (sqP (asP (.one 2) (bagIx 0 3)) (sqP (bagSet 0 3 (binP (intD modI) (bltP intF (consP (binP addD (binP addD (binP addD (binP mulD (binP mulD (varP 2) (varP 2)) (cstP (.int 5))) (binP mulD (varP 2) (cstP (.int 31153)))) (binP mulD (bagIx 0 4) (cstP (.int 1299827)))) (cstP (.int 70001))) nilP)) (cstP (.int 2147483549))))
      (rtP (binP (intD modI) (bltP intF (consP (binP addD (binP (intD fdivI) (bagIx 0 3) (cstP (.int 71))) (binP mulD (binP (intD modI) (bltP intF (consP (bagIx 0 3) nilP)) (cstP (.int 7907))) (cstP (.int 61)))) nilP)) (varP 1))))))) :
    ∃ r b', sqP u v [some (.hnd 0), some (.int m), none, x3, none] ⟨some ⟨cells, at_, rest, seed, cnt⟩, scr, own, nx⟩ = some (.ok (.rt (.int r)), ⟨some b', scr, own, nx⟩) ∧ 0 ≤ r ∧ r < m ∧ okB b' := by
  subst hu
  subst hv
  have hs : -two64 < seed ∧ seed < two64 := by unfold two64; omega
  by_cases c : 0 < rest
  · refine ⟨rest % m, ⟨cells, at_, rest / m, seed, cnt⟩, sq_ret (if_tt (st1 := ⟨some ⟨cells, at_, rest, seed, cnt⟩, scr, own, nx⟩) (by simp only [gd, runD, callP, kwF, pick, rtP, sqP, asP, parP, nxP, ifP, andV, orV, notV, andT, orT, notT, truP, tstP, truD, isiP, isisP, isTys, isNP, notNP, isNon, varP, chP, cstP, bltP, binP, consP, nilP, lstP, tupP, lcP, itP, rng1P, rng2P, slP, noP, soP, intOf, negP, sosP, bd_ok, List.map, List.replicate, List.length_cons, List.length_nil, List.cons_append, List.nil_append, List.append_nil, List.getElem?_cons_zero, List.getElem?_cons_succ, List.filterMap, List.set, omap_some, obind_some, isTy, blOf, if_t, if_f, lenF, leD_i, leD_s, ltD_i, ltD_s, gtD_i, geD_i, addD_i, subD_i, mulD_i, itemsD, wipeD, Tgt.put, setAll, outR, lb0, lb1, lb2, lb3, lb4, lb5, lb6, lb7, lb8, lb9, lb10, lb11, lb12, allF, listF, tupleF, intF, eq_self_iff_true, if_true, if_false, decide_true, decide_false, Bool.true_and, Bool.false_and, Bool.and_true, Bool.and_false, Bool.not_true, Bool.not_false, Nat.sub_self, Nat.reduceAdd, Nat.reduceSub, Nat.reduceEqDiff, bagIx, isBag, BagSt.item, c]) ?_), Int.emod_nonneg _ (by omega), Int.emod_lt_of_pos _ h1, hb1, hb2⟩
    (apply sq_step; focus (simp only [gd, runD, callP, kwF, pick, rtP, sqP, asP, parP, nxP, ifP, andV, orV, notV, andT, orT, notT, truP, tstP, truD, isiP, isisP, isTys, isNP, notNP, isNon, varP, chP, cstP, bltP, binP, consP, nilP, lstP, tupP, lcP, itP, rng1P, rng2P, slP, noP, soP, intOf, negP, sosP, bd_ok, List.map, List.replicate, List.length_cons, List.length_nil, List.cons_append, List.nil_append, List.append_nil, List.getElem?_cons_zero, List.getElem?_cons_succ, List.filterMap, List.set, omap_some, obind_some, isTy, blOf, if_t, if_f, lenF, leD_i, leD_s, ltD_i, ltD_s, gtD_i, geD_i, addD_i, subD_i, mulD_i, itemsD, wipeD, Tgt.put, setAll, outR, lb0, lb1, lb2, lb3, lb4, lb5, lb6, lb7, lb8, lb9, lb10, lb11, lb12, allF, listF, tupleF, intF, eq_self_iff_true, if_true, if_false, decide_true, decide_false, Bool.true_and, Bool.false_and, Bool.and_true, Bool.and_false, Bool.not_true, Bool.not_false, Nat.sub_self, Nat.reduceAdd, Nat.reduceSub, Nat.reduceEqDiff, bagIx, isBag, BagSt.item, modD _ _ h1]; first | done | rfl))
    (apply sq_step; focus (simp only [gd, runD, callP, kwF, pick, rtP, sqP, asP, parP, nxP, ifP, andV, orV, notV, andT, orT, notT, truP, tstP, truD, isiP, isisP, isTys, isNP, notNP, isNon, varP, chP, cstP, bltP, binP, consP, nilP, lstP, tupP, lcP, itP, rng1P, rng2P, slP, noP, soP, intOf, negP, sosP, bd_ok, List.map, List.replicate, List.length_cons, List.length_nil, List.cons_append, List.nil_append, List.append_nil, List.getElem?_cons_zero, List.getElem?_cons_succ, List.filterMap, List.set, omap_some, obind_some, isTy, blOf, if_t, if_f, lenF, leD_i, leD_s, ltD_i, ltD_s, gtD_i, geD_i, addD_i, subD_i, mulD_i, itemsD, wipeD, Tgt.put, setAll, outR, lb0, lb1, lb2, lb3, lb4, lb5, lb6, lb7, lb8, lb9, lb10, lb11, lb12, allF, listF, tupleF, intF, eq_self_iff_true, if_true, if_false, decide_true, decide_false, Bool.true_and, Bool.false_and, Bool.and_true, Bool.and_false, Bool.not_true, Bool.not_false, Nat.sub_self, Nat.reduceAdd, Nat.reduceSub, Nat.reduceEqDiff, bagIx, bagSet, isBag, BagSt.item, BagSt.put, fdivD _ _ ⟨h1, h2⟩]; first | done | rfl))
    simp only [gd, runD, callP, kwF, pick, rtP, sqP, asP, parP, nxP, ifP, andV, orV, notV, andT, orT, notT, truP, tstP, truD, isiP, isisP, isTys, isNP, notNP, isNon, varP, chP, cstP, bltP, binP, consP, nilP, lstP, tupP, lcP, itP, rng1P, rng2P, slP, noP, soP, intOf, negP, sosP, bd_ok, List.map, List.replicate, List.length_cons, List.length_nil, List.cons_append, List.nil_append, List.append_nil, List.getElem?_cons_zero, List.getElem?_cons_succ, List.filterMap, List.set, omap_some, obind_some, isTy, blOf, if_t, if_f, lenF, leD_i, leD_s, ltD_i, ltD_s, gtD_i, geD_i, addD_i, subD_i, mulD_i, itemsD, wipeD, Tgt.put, setAll, outR, lb0, lb1, lb2, lb3, lb4, lb5, lb6, lb7, lb8, lb9, lb10, lb11, lb12, allF, listF, tupleF, intF, eq_self_iff_true, if_true, if_false, decide_true, decide_false, Bool.true_and, Bool.false_and, Bool.and_true, Bool.and_false, Bool.not_true, Bool.not_false, Nat.sub_self, Nat.reduceAdd, Nat.reduceSub, Nat.reduceEqDiff]
  · have m1 : mulD (.int seed) (.int seed) = some (.int (seed * seed)) := by show (mulI seed seed).map D.int = _; rw [mulS seed seed hs] <;> rfl
    have k5 : -two64 < (5 : Int) ∧ (5 : Int) < two64 := by decide
    let s2 : Int := (seed * seed * 5 + seed * 31153 + (cnt + 1) * 1299827 + 70001) % 2147483549
    have s2a : 0 ≤ s2 := Int.emod_nonneg _ (by decide)
    have s2b : s2 < 2147483549 := Int.emod_lt_of_pos _ (by decide)
    refine ⟨(s2 / 71 + s2 % 7907 * 61) % m, ⟨cells, at_, rest, s2, cnt + 1⟩, sq_step (if_ff (st1 := ⟨some ⟨cells, at_, rest, seed, cnt⟩, scr, own, nx⟩) (by simp only [gd, runD, callP, kwF, pick, rtP, sqP, asP, parP, nxP, ifP, andV, orV, notV, andT, orT, notT, truP, tstP, truD, isiP, isisP, isTys, isNP, notNP, isNon, varP, chP, cstP, bltP, binP, consP, nilP, lstP, tupP, lcP, itP, rng1P, rng2P, slP, noP, soP, intOf, negP, sosP, bd_ok, List.map, List.replicate, List.length_cons, List.length_nil, List.cons_append, List.nil_append, List.append_nil, List.getElem?_cons_zero, List.getElem?_cons_succ, List.filterMap, List.set, omap_some, obind_some, isTy, blOf, if_t, if_f, lenF, leD_i, leD_s, ltD_i, ltD_s, gtD_i, geD_i, addD_i, subD_i, mulD_i, itemsD, wipeD, Tgt.put, setAll, outR, lb0, lb1, lb2, lb3, lb4, lb5, lb6, lb7, lb8, lb9, lb10, lb11, lb12, allF, listF, tupleF, intF, eq_self_iff_true, if_true, if_false, decide_true, decide_false, Bool.true_and, Bool.false_and, Bool.and_true, Bool.and_false, Bool.not_true, Bool.not_false, Nat.sub_self, Nat.reduceAdd, Nat.reduceSub, Nat.reduceEqDiff, bagIx, isBag, BagSt.item, c]) rfl) ?_, Int.emod_nonneg _ (by omega), Int.emod_lt_of_pos _ h1, s2a, by show s2 < _; omega⟩
    (apply sq_step; focus (simp only [gd, runD, callP, kwF, pick, rtP, sqP, asP, parP, nxP, ifP, andV, orV, notV, andT, orT, notT, truP, tstP, truD, isiP, isisP, isTys, isNP, notNP, isNon, varP, chP, cstP, bltP, binP, consP, nilP, lstP, tupP, lcP, itP, rng1P, rng2P, slP, noP, soP, intOf, negP, sosP, bd_ok, List.map, List.replicate, List.length_cons, List.length_nil, List.cons_append, List.nil_append, List.append_nil, List.getElem?_cons_zero, List.getElem?_cons_succ, List.filterMap, List.set, omap_some, obind_some, isTy, blOf, if_t, if_f, lenF, leD_i, leD_s, ltD_i, ltD_s, gtD_i, geD_i, addD_i, subD_i, mulD_i, itemsD, wipeD, Tgt.put, setAll, outR, lb0, lb1, lb2, lb3, lb4, lb5, lb6, lb7, lb8, lb9, lb10, lb11, lb12, allF, listF, tupleF, intF, eq_self_iff_true, if_true, if_false, decide_true, decide_false, Bool.true_and, Bool.false_and, Bool.and_true, Bool.and_false, Bool.not_true, Bool.not_false, Nat.sub_self, Nat.reduceAdd, Nat.reduceSub, Nat.reduceEqDiff, bagIx, bagSet, isBag, BagSt.item, BagSt.put]; first | done | rfl))
    (apply sq_step; focus (simp only [gd, runD, callP, kwF, pick, rtP, sqP, asP, parP, nxP, ifP, andV, orV, notV, andT, orT, notT, truP, tstP, truD, isiP, isisP, isTys, isNP, notNP, isNon, varP, chP, cstP, bltP, binP, consP, nilP, lstP, tupP, lcP, itP, rng1P, rng2P, slP, noP, soP, intOf, negP, sosP, bd_ok, List.map, List.replicate, List.length_cons, List.length_nil, List.cons_append, List.nil_append, List.append_nil, List.getElem?_cons_zero, List.getElem?_cons_succ, List.filterMap, List.set, omap_some, obind_some, isTy, blOf, if_t, if_f, lenF, leD_i, leD_s, ltD_i, ltD_s, gtD_i, geD_i, addD_i, subD_i, mulD_i, itemsD, wipeD, Tgt.put, setAll, outR, lb0, lb1, lb2, lb3, lb4, lb5, lb6, lb7, lb8, lb9, lb10, lb11, lb12, allF, listF, tupleF, intF, eq_self_iff_true, if_true, if_false, decide_true, decide_false, Bool.true_and, Bool.false_and, Bool.and_true, Bool.and_false, Bool.not_true, Bool.not_false, Nat.sub_self, Nat.reduceAdd, Nat.reduceSub, Nat.reduceEqDiff, bagIx, isBag, BagSt.item]; first | done | rfl))
    (apply sq_step; focus (simp only [gd, runD, callP, kwF, pick, rtP, sqP, asP, parP, nxP, ifP, andV, orV, notV, andT, orT, notT, truP, tstP, truD, isiP, isisP, isTys, isNP, notNP, isNon, varP, chP, cstP, bltP, binP, consP, nilP, lstP, tupP, lcP, itP, rng1P, rng2P, slP, noP, soP, intOf, negP, sosP, bd_ok, List.map, List.replicate, List.length_cons, List.length_nil, List.cons_append, List.nil_append, List.append_nil, List.getElem?_cons_zero, List.getElem?_cons_succ, List.filterMap, List.set, omap_some, obind_some, isTy, blOf, if_t, if_f, lenF, leD_i, leD_s, ltD_i, ltD_s, gtD_i, geD_i, addD_i, subD_i, mulD_i, itemsD, wipeD, Tgt.put, setAll, outR, lb0, lb1, lb2, lb3, lb4, lb5, lb6, lb7, lb8, lb9, lb10, lb11, lb12, allF, listF, tupleF, intF, eq_self_iff_true, if_true, if_false, decide_true, decide_false, Bool.true_and, Bool.false_and, Bool.and_true, Bool.and_false, Bool.not_true, Bool.not_false, Nat.sub_self, Nat.reduceAdd, Nat.reduceSub, Nat.reduceEqDiff, bagIx, bagSet, isBag, BagSt.item, BagSt.put, m1, mulK _ 5 (by decide), mulK _ 31153 (by decide), mulK _ 1299827 (by decide), modD _ 2147483549 (by decide)]; first | done | rfl))
    simp only [gd, runD, callP, kwF, pick, rtP, sqP, asP, parP, nxP, ifP, andV, orV, notV, andT, orT, notT, truP, tstP, truD, isiP, isisP, isTys, isNP, notNP, isNon, varP, chP, cstP, bltP, binP, consP, nilP, lstP, tupP, lcP, itP, rng1P, rng2P, slP, noP, soP, intOf, negP, sosP, bd_ok, List.map, List.replicate, List.length_cons, List.length_nil, List.cons_append, List.nil_append, List.append_nil, List.getElem?_cons_zero, List.getElem?_cons_succ, List.filterMap, List.set, omap_some, obind_some, isTy, blOf, if_t, if_f, lenF, leD_i, leD_s, ltD_i, ltD_s, gtD_i, geD_i, addD_i, subD_i, mulD_i, itemsD, wipeD, Tgt.put, setAll, outR, lb0, lb1, lb2, lb3, lb4, lb5, lb6, lb7, lb8, lb9, lb10, lb11, lb12, allF, listF, tupleF, intF, eq_self_iff_true, if_true, if_false, decide_true, decide_false, Bool.true_and, Bool.false_and, Bool.and_true, Bool.and_false, Bool.not_true, Bool.not_false, Nat.sub_self, Nat.reduceAdd, Nat.reduceSub, Nat.reduceEqDiff, bagIx, isBag, BagSt.item, mulK _ 61 (by decide), modD _ 7907 (by decide), fdivD _ 71 (by decide), modD _ _ h1]
    rfl
theorem pull_ok (b : BagSt) (scr : Option (Addr × List Int)) (own : List (Nat × Cell)) (nx : Nat) (m : Int) (hb : okB b) (h1 : 0 < m) (h2 : m < 1073741824) :
    ∃ r b', F_l_pull [.hnd 0, .int m] ⟨some b, scr, own, nx⟩ = some (.ok (.int r), ⟨some b', scr, own, nx⟩) ∧ 0 ≤ r ∧ r < m ∧ okB b' := by
  obtain ⟨cells, at_, rest, seed, cnt⟩ := b
  obtain ⟨hb1, hb2⟩ := hb
  simp only at hb1 hb2
  have fin : ∀ {r b'}, d_l_pull [some (.hnd 0), some (.int m), none, none, none] ⟨some ⟨cells, at_, rest, seed, cnt⟩, scr, own, nx⟩ = some (.ok (.rt (.int r)), ⟨some b', scr, own, nx⟩) ∧ 0 ≤ r ∧ r < m ∧ okB b' →
      ∃ r b', F_l_pull [.hnd 0, .int m] ⟨some ⟨cells, at_, rest, seed, cnt⟩, scr, own, nx⟩ = some (.ok (.int r), ⟨some b', scr, own, nx⟩) ∧ 0 ≤ r ∧ r < m ∧ okB b' := fun {r b'} h => ⟨r, b', run_ret rfl h.1, h.2⟩
  unfold d_l_pull at fin
  have tail := fun rest' at' seed' x3 h1' h2' => pull_tail cells at' rest' seed' cnt x3 scr own nx m h1' h2' h1 h2 _ _ rfl rfl
  by_cases c1 : rest = 0
  · subst c1
    by_cases c2 : at_ < cells.length
    · have c2' : (at_ : Int) < (cells.length : Int) := by omega
      have ix := ixI cells at_ c2
      have pos : 0 ≤ (at_ : Int) + 1 := by omega
      by_cases c3 : 1000000000000000000 ≤ cells[at_]
      · obtain ⟨r, b', h, q⟩ := tail cells[at_] (at_ + 1) seed (some (.int cells[at_])) hb1 hb2
        refine fin ⟨sq_step (Δ1 := [some (.hnd 0), some (.int m), none, some (.int cells[at_]), none]) (st1 := ⟨some ⟨cells, at_ + 1, cells[at_], seed, cnt⟩, scr, own, nx⟩) ?_ h, q⟩
        refine if_tt (st1 := ⟨some ⟨cells, at_, 0, seed, cnt⟩, scr, own, nx⟩) (by simp only [gd, runD, callP, kwF, pick, rtP, sqP, asP, parP, nxP, ifP, andV, orV, notV, andT, orT, notT, truP, tstP, truD, isiP, isisP, isTys, isNP, notNP, isNon, varP, chP, cstP, bltP, binP, consP, nilP, lstP, tupP, lcP, itP, rng1P, rng2P, slP, noP, soP, intOf, negP, sosP, bd_ok, List.map, List.replicate, List.length_cons, List.length_nil, List.cons_append, List.nil_append, List.append_nil, List.getElem?_cons_zero, List.getElem?_cons_succ, List.filterMap, List.set, omap_some, obind_some, isTy, blOf, if_t, if_f, lenF, leD_i, leD_s, ltD_i, ltD_s, gtD_i, geD_i, addD_i, subD_i, mulD_i, itemsD, wipeD, Tgt.put, setAll, outR, lb0, lb1, lb2, lb3, lb4, lb5, lb6, lb7, lb8, lb9, lb10, lb11, lb12, allF, listF, tupleF, intF, eq_self_iff_true, if_true, if_false, decide_true, decide_false, Bool.true_and, Bool.false_and, Bool.and_true, Bool.and_false, Bool.not_true, Bool.not_false, Nat.sub_self, Nat.reduceAdd, Nat.reduceSub, Nat.reduceEqDiff, bagIx, isBag, BagSt.item, eqD_i, List.length_map, c2', beq_self_eq_true]) ?_
        (apply sq_step; focus (simp only [gd, runD, callP, kwF, pick, rtP, sqP, asP, parP, nxP, ifP, andV, orV, notV, andT, orT, notT, truP, tstP, truD, isiP, isisP, isTys, isNP, notNP, isNon, varP, chP, cstP, bltP, binP, consP, nilP, lstP, tupP, lcP, itP, rng1P, rng2P, slP, noP, soP, intOf, negP, sosP, bd_ok, List.map, List.replicate, List.length_cons, List.length_nil, List.cons_append, List.nil_append, List.append_nil, List.getElem?_cons_zero, List.getElem?_cons_succ, List.filterMap, List.set, omap_some, obind_some, isTy, blOf, if_t, if_f, lenF, leD_i, leD_s, ltD_i, ltD_s, gtD_i, geD_i, addD_i, subD_i, mulD_i, itemsD, wipeD, Tgt.put, setAll, outR, lb0, lb1, lb2, lb3, lb4, lb5, lb6, lb7, lb8, lb9, lb10, lb11, lb12, allF, listF, tupleF, intF, eq_self_iff_true, if_true, if_false, decide_true, decide_false, Bool.true_and, Bool.false_and, Bool.and_true, Bool.and_false, Bool.not_true, Bool.not_false, Nat.sub_self, Nat.reduceAdd, Nat.reduceSub, Nat.reduceEqDiff, bagIx, isBag, BagSt.item, ix]; first | done | rfl))
        (apply sq_step; focus (simp only [gd, runD, callP, kwF, pick, rtP, sqP, asP, parP, nxP, ifP, andV, orV, notV, andT, orT, notT, truP, tstP, truD, isiP, isisP, isTys, isNP, notNP, isNon, varP, chP, cstP, bltP, binP, consP, nilP, lstP, tupP, lcP, itP, rng1P, rng2P, slP, noP, soP, intOf, negP, sosP, bd_ok, List.map, List.replicate, List.length_cons, List.length_nil, List.cons_append, List.nil_append, List.append_nil, List.getElem?_cons_zero, List.getElem?_cons_succ, List.filterMap, List.set, omap_some, obind_some, isTy, blOf, if_t, if_f, lenF, leD_i, leD_s, ltD_i, ltD_s, gtD_i, geD_i, addD_i, subD_i, mulD_i, itemsD, wipeD, Tgt.put, setAll, outR, lb0, lb1, lb2, lb3, lb4, lb5, lb6, lb7, lb8, lb9, lb10, lb11, lb12, allF, listF, tupleF, intF, eq_self_iff_true, if_true, if_false, decide_true, decide_false, Bool.true_and, Bool.false_and, Bool.and_true, Bool.and_false, Bool.not_true, Bool.not_false, Nat.sub_self, Nat.reduceAdd, Nat.reduceSub, Nat.reduceEqDiff, bagIx, bagSet, isBag, BagSt.item, BagSt.put, if_pos pos, Int.toNat_natCast_add_one]; first | done | rfl))
        refine if_tt (st1 := ⟨some ⟨cells, at_ + 1, 0, seed, cnt⟩, scr, own, nx⟩) (by simp only [gd, runD, callP, kwF, pick, rtP, sqP, asP, parP, nxP, ifP, andV, orV, notV, andT, orT, notT, truP, tstP, truD, isiP, isisP, isTys, isNP, notNP, isNon, varP, chP, cstP, bltP, binP, consP, nilP, lstP, tupP, lcP, itP, rng1P, rng2P, slP, noP, soP, intOf, negP, sosP, bd_ok, List.map, List.replicate, List.length_cons, List.length_nil, List.cons_append, List.nil_append, List.append_nil, List.getElem?_cons_zero, List.getElem?_cons_succ, List.filterMap, List.set, omap_some, obind_some, isTy, blOf, if_t, if_f, lenF, leD_i, leD_s, ltD_i, ltD_s, gtD_i, geD_i, addD_i, subD_i, mulD_i, itemsD, wipeD, Tgt.put, setAll, outR, lb0, lb1, lb2, lb3, lb4, lb5, lb6, lb7, lb8, lb9, lb10, lb11, lb12, allF, listF, tupleF, intF, eq_self_iff_true, if_true, if_false, decide_true, decide_false, Bool.true_and, Bool.false_and, Bool.and_true, Bool.and_false, Bool.not_true, Bool.not_false, Nat.sub_self, Nat.reduceAdd, Nat.reduceSub, Nat.reduceEqDiff, pw18, c3]) ?_
        simp only [gd, runD, callP, kwF, pick, rtP, sqP, asP, parP, nxP, ifP, andV, orV, notV, andT, orT, notT, truP, tstP, truD, isiP, isisP, isTys, isNP, notNP, isNon, varP, chP, cstP, bltP, binP, consP, nilP, lstP, tupP, lcP, itP, rng1P, rng2P, slP, noP, soP, intOf, negP, sosP, bd_ok, List.map, List.replicate, List.length_cons, List.length_nil, List.cons_append, List.nil_append, List.append_nil, List.getElem?_cons_zero, List.getElem?_cons_succ, List.filterMap, List.set, omap_some, obind_some, isTy, blOf, if_t, if_f, lenF, leD_i, leD_s, ltD_i, ltD_s, gtD_i, geD_i, addD_i, subD_i, mulD_i, itemsD, wipeD, Tgt.put, setAll, outR, lb0, lb1, lb2, lb3, lb4, lb5, lb6, lb7, lb8, lb9, lb10, lb11, lb12, allF, listF, tupleF, intF, eq_self_iff_true, if_true, if_false, decide_true, decide_false, Bool.true_and, Bool.false_and, Bool.and_true, Bool.and_false, Bool.not_true, Bool.not_false, Nat.sub_self, Nat.reduceAdd, Nat.reduceSub, Nat.reduceEqDiff, bagSet, isBag, BagSt.put]
      · let s2 : Int := (seed * 48611 + cells[at_] % 2147483423 * 15013 + 29) % 2147483579
        have s2a : 0 ≤ s2 := Int.emod_nonneg _ (by decide)
        have s2b : s2 < 2147483579 := Int.emod_lt_of_pos _ (by decide)
        obtain ⟨r, b', h, q⟩ := tail 0 (at_ + 1) s2 (some (.int cells[at_])) s2a (by omega)
        refine fin ⟨sq_step (Δ1 := [some (.hnd 0), some (.int m), none, some (.int cells[at_]), none]) (st1 := ⟨some ⟨cells, at_ + 1, 0, s2, cnt⟩, scr, own, nx⟩) ?_ h, q⟩
        refine if_tt (st1 := ⟨some ⟨cells, at_, 0, seed, cnt⟩, scr, own, nx⟩) (by simp only [gd, runD, callP, kwF, pick, rtP, sqP, asP, parP, nxP, ifP, andV, orV, notV, andT, orT, notT, truP, tstP, truD, isiP, isisP, isTys, isNP, notNP, isNon, varP, chP, cstP, bltP, binP, consP, nilP, lstP, tupP, lcP, itP, rng1P, rng2P, slP, noP, soP, intOf, negP, sosP, bd_ok, List.map, List.replicate, List.length_cons, List.length_nil, List.cons_append, List.nil_append, List.append_nil, List.getElem?_cons_zero, List.getElem?_cons_succ, List.filterMap, List.set, omap_some, obind_some, isTy, blOf, if_t, if_f, lenF, leD_i, leD_s, ltD_i, ltD_s, gtD_i, geD_i, addD_i, subD_i, mulD_i, itemsD, wipeD, Tgt.put, setAll, outR, lb0, lb1, lb2, lb3, lb4, lb5, lb6, lb7, lb8, lb9, lb10, lb11, lb12, allF, listF, tupleF, intF, eq_self_iff_true, if_true, if_false, decide_true, decide_false, Bool.true_and, Bool.false_and, Bool.and_true, Bool.and_false, Bool.not_true, Bool.not_false, Nat.sub_self, Nat.reduceAdd, Nat.reduceSub, Nat.reduceEqDiff, bagIx, isBag, BagSt.item, eqD_i, List.length_map, c2', beq_self_eq_true]) ?_
        (apply sq_step; focus (simp only [gd, runD, callP, kwF, pick, rtP, sqP, asP, parP, nxP, ifP, andV, orV, notV, andT, orT, notT, truP, tstP, truD, isiP, isisP, isTys, isNP, notNP, isNon, varP, chP, cstP, bltP, binP, consP, nilP, lstP, tupP, lcP, itP, rng1P, rng2P, slP, noP, soP, intOf, negP, sosP, bd_ok, List.map, List.replicate, List.length_cons, List.length_nil, List.cons_append, List.nil_append, List.append_nil, List.getElem?_cons_zero, List.getElem?_cons_succ, List.filterMap, List.set, omap_some, obind_some, isTy, blOf, if_t, if_f, lenF, leD_i, leD_s, ltD_i, ltD_s, gtD_i, geD_i, addD_i, subD_i, mulD_i, itemsD, wipeD, Tgt.put, setAll, outR, lb0, lb1, lb2, lb3, lb4, lb5, lb6, lb7, lb8, lb9, lb10, lb11, lb12, allF, listF, tupleF, intF, eq_self_iff_true, if_true, if_false, decide_true, decide_false, Bool.true_and, Bool.false_and, Bool.and_true, Bool.and_false, Bool.not_true, Bool.not_false, Nat.sub_self, Nat.reduceAdd, Nat.reduceSub, Nat.reduceEqDiff, bagIx, isBag, BagSt.item, ix]; first | done | rfl))
        (apply sq_step; focus (simp only [gd, runD, callP, kwF, pick, rtP, sqP, asP, parP, nxP, ifP, andV, orV, notV, andT, orT, notT, truP, tstP, truD, isiP, isisP, isTys, isNP, notNP, isNon, varP, chP, cstP, bltP, binP, consP, nilP, lstP, tupP, lcP, itP, rng1P, rng2P, slP, noP, soP, intOf, negP, sosP, bd_ok, List.map, List.replicate, List.length_cons, List.length_nil, List.cons_append, List.nil_append, List.append_nil, List.getElem?_cons_zero, List.getElem?_cons_succ, List.filterMap, List.set, omap_some, obind_some, isTy, blOf, if_t, if_f, lenF, leD_i, leD_s, ltD_i, ltD_s, gtD_i, geD_i, addD_i, subD_i, mulD_i, itemsD, wipeD, Tgt.put, setAll, outR, lb0, lb1, lb2, lb3, lb4, lb5, lb6, lb7, lb8, lb9, lb10, lb11, lb12, allF, listF, tupleF, intF, eq_self_iff_true, if_true, if_false, decide_true, decide_false, Bool.true_and, Bool.false_and, Bool.and_true, Bool.and_false, Bool.not_true, Bool.not_false, Nat.sub_self, Nat.reduceAdd, Nat.reduceSub, Nat.reduceEqDiff, bagIx, bagSet, isBag, BagSt.item, BagSt.put, if_pos pos, Int.toNat_natCast_add_one]; first | done | rfl))
        refine if_ff (st1 := ⟨some ⟨cells, at_ + 1, 0, seed, cnt⟩, scr, own, nx⟩) (by simp only [gd, runD, callP, kwF, pick, rtP, sqP, asP, parP, nxP, ifP, andV, orV, notV, andT, orT, notT, truP, tstP, truD, isiP, isisP, isTys, isNP, notNP, isNon, varP, chP, cstP, bltP, binP, consP, nilP, lstP, tupP, lcP, itP, rng1P, rng2P, slP, noP, soP, intOf, negP, sosP, bd_ok, List.map, List.replicate, List.length_cons, List.length_nil, List.cons_append, List.nil_append, List.append_nil, List.getElem?_cons_zero, List.getElem?_cons_succ, List.filterMap, List.set, omap_some, obind_some, isTy, blOf, if_t, if_f, lenF, leD_i, leD_s, ltD_i, ltD_s, gtD_i, geD_i, addD_i, subD_i, mulD_i, itemsD, wipeD, Tgt.put, setAll, outR, lb0, lb1, lb2, lb3, lb4, lb5, lb6, lb7, lb8, lb9, lb10, lb11, lb12, allF, listF, tupleF, intF, eq_self_iff_true, if_true, if_false, decide_true, decide_false, Bool.true_and, Bool.false_and, Bool.and_true, Bool.and_false, Bool.not_true, Bool.not_false, Nat.sub_self, Nat.reduceAdd, Nat.reduceSub, Nat.reduceEqDiff, pw18, c3]) ?_
        simp only [gd, runD, callP, kwF, pick, rtP, sqP, asP, parP, nxP, ifP, andV, orV, notV, andT, orT, notT, truP, tstP, truD, isiP, isisP, isTys, isNP, notNP, isNon, varP, chP, cstP, bltP, binP, consP, nilP, lstP, tupP, lcP, itP, rng1P, rng2P, slP, noP, soP, intOf, negP, sosP, bd_ok, List.map, List.replicate, List.length_cons, List.length_nil, List.cons_append, List.nil_append, List.append_nil, List.getElem?_cons_zero, List.getElem?_cons_succ, List.filterMap, List.set, omap_some, obind_some, isTy, blOf, if_t, if_f, lenF, leD_i, leD_s, ltD_i, ltD_s, gtD_i, geD_i, addD_i, subD_i, mulD_i, itemsD, wipeD, Tgt.put, setAll, outR, lb0, lb1, lb2, lb3, lb4, lb5, lb6, lb7, lb8, lb9, lb10, lb11, lb12, allF, listF, tupleF, intF, eq_self_iff_true, if_true, if_false, decide_true, decide_false, Bool.true_and, Bool.false_and, Bool.and_true, Bool.and_false, Bool.not_true, Bool.not_false, Nat.sub_self, Nat.reduceAdd, Nat.reduceSub, Nat.reduceEqDiff, bagIx, bagSet, isBag, BagSt.item, BagSt.put, mulK _ 48611 (by decide), mulK _ 15013 (by decide), modD _ 2147483423 (by decide), modD _ 2147483579 (by decide)]
        rfl
    · have c2' : ¬ ((at_ : Int) < (cells.length : Int)) := by omega
      obtain ⟨r, b', h, q⟩ := tail 0 at_ seed none hb1 hb2
      exact fin ⟨sq_step (if_ff (st1 := ⟨some ⟨cells, at_, 0, seed, cnt⟩, scr, own, nx⟩) (by simp only [gd, runD, callP, kwF, pick, rtP, sqP, asP, parP, nxP, ifP, andV, orV, notV, andT, orT, notT, truP, tstP, truD, isiP, isisP, isTys, isNP, notNP, isNon, varP, chP, cstP, bltP, binP, consP, nilP, lstP, tupP, lcP, itP, rng1P, rng2P, slP, noP, soP, intOf, negP, sosP, bd_ok, List.map, List.replicate, List.length_cons, List.length_nil, List.cons_append, List.nil_append, List.append_nil, List.getElem?_cons_zero, List.getElem?_cons_succ, List.filterMap, List.set, omap_some, obind_some, isTy, blOf, if_t, if_f, lenF, leD_i, leD_s, ltD_i, ltD_s, gtD_i, geD_i, addD_i, subD_i, mulD_i, itemsD, wipeD, Tgt.put, setAll, outR, lb0, lb1, lb2, lb3, lb4, lb5, lb6, lb7, lb8, lb9, lb10, lb11, lb12, allF, listF, tupleF, intF, eq_self_iff_true, if_true, if_false, decide_true, decide_false, Bool.true_and, Bool.false_and, Bool.and_true, Bool.and_false, Bool.not_true, Bool.not_false, Nat.sub_self, Nat.reduceAdd, Nat.reduceSub, Nat.reduceEqDiff, bagIx, isBag, BagSt.item, eqD_i, List.length_map, c2', beq_self_eq_true]) rfl) h, q⟩
  · have c1' : (rest == 0) = false := beq_eq_false_iff_ne.mpr c1
    obtain ⟨r, b', h, q⟩ := tail rest at_ seed none hb1 hb2
    exact fin ⟨sq_step (if_ff (st1 := ⟨some ⟨cells, at_, rest, seed, cnt⟩, scr, own, nx⟩) (by simp only [gd, runD, callP, kwF, pick, rtP, sqP, asP, parP, nxP, ifP, andV, orV, notV, andT, orT, notT, truP, tstP, truD, isiP, isisP, isTys, isNP, notNP, isNon, varP, chP, cstP, bltP, binP, consP, nilP, lstP, tupP, lcP, itP, rng1P, rng2P, slP, noP, soP, intOf, negP, sosP, bd_ok, List.map, List.replicate, List.length_cons, List.length_nil, List.cons_append, List.nil_append, List.append_nil, List.getElem?_cons_zero, List.getElem?_cons_succ, List.filterMap, List.set, omap_some, obind_some, isTy, blOf, if_t, if_f, lenF, leD_i, leD_s, ltD_i, ltD_s, gtD_i, geD_i, addD_i, subD_i, mulD_i, itemsD, wipeD, Tgt.put, setAll, outR, lb0, lb1, lb2, lb3, lb4, lb5, lb6, lb7, lb8, lb9, lb10, lb11, lb12, allF, listF, tupleF, intF, eq_self_iff_true, if_true, if_false, decide_true, decide_false, Bool.true_and, Bool.false_and, Bool.and_true, Bool.and_false, Bool.not_true, Bool.not_false, Nat.sub_self, Nat.reduceAdd, Nat.reduceSub, Nat.reduceEqDiff, bagIx, isBag, BagSt.item, eqD_i, c1']) rfl) h, q⟩
end Dn

set_option Elab.async false
set_option linter.all false
set_option maxRecDepth 100000
set_option maxHeartbeats 4000000
namespace Dn
open PySem PySem.Spec PyProof.Rows L2
theorem any_lst (b : BagSt) (scr : Option (Addr × List Int)) (own : List (Nat × Cell)) (nx : Nat) (ds : List D) (hb : okB b) (h1 : 0 < ds.length) (h2 : ds.length ≤ big) :
    ∃ d b', d ∈ ds ∧ F_l_any [.hnd 0, .lst ds] ⟨some b, scr, own, nx⟩ = some (.ok d, ⟨some b', scr, own, nx⟩) ∧ okB b' := by
  unfold big at h2
  obtain ⟨r, b', h, r0, r1, hb'⟩ := pull_ok b scr own nx ds.length hb (by omega) (by omega)
  have hr : r.toNat < ds.length := by omega
  have ix : ixD (.lst ds) (.int r) = some ds[r.toNat] := by
    show atI ds r = _
    unfold atI ixN
    rw [if_pos r0, if_pos r1, obind_some, List.getElem?_eq_getElem hr]
  refine ⟨ds[r.toNat], b', List.getElem_mem hr, run_ret rfl ?_, hb'⟩
  unfold d_l_any
  simp only [gd, runD, callP, kwF, pick, rtP, sqP, asP, parP, nxP, ifP, andV, orV, notV, andT, orT, notT, truP, tstP, truD, isiP, isisP, isTys, isNP, notNP, isNon, varP, chP, cstP, bltP, binP, consP, nilP, lstP, tupP, lcP, itP, rng1P, rng2P, slP, noP, soP, intOf, negP, sosP, bd_ok, List.map, List.replicate, List.length_cons, List.length_nil, List.cons_append, List.nil_append, List.append_nil, List.getElem?_cons_zero, List.getElem?_cons_succ, List.filterMap, List.set, omap_some, obind_some, isTy, blOf, if_t, if_f, lenF, leD_i, leD_s, ltD_i, ltD_s, gtD_i, geD_i, addD_i, subD_i, mulD_i, itemsD, wipeD, Tgt.put, setAll, outR, lb0, lb1, lb2, lb3, lb4, lb5, lb6, lb7, lb8, lb9, lb10, lb11, lb12, allF, listF, tupleF, intF, eq_self_iff_true, if_true, if_false, decide_true, decide_false, Bool.true_and, Bool.false_and, Bool.and_true, Bool.and_false, Bool.not_true, Bool.not_false, Nat.sub_self, Nat.reduceAdd, Nat.reduceSub, Nat.reduceEqDiff, h, ix]
theorem any_str (b : BagSt) (scr : Option (Addr × List Int)) (own : List (Nat × Cell)) (nx : Nat) (z : Str) (hb : okB b) (h1 : 0 < z.length) (h2 : z.length ≤ big) :
    ∃ c b', c ∈ z.cps.toList ∧ F_l_any [.hnd 0, .str z] ⟨some b, scr, own, nx⟩ = some (.ok (.str ⟨#[c]⟩), ⟨some b', scr, own, nx⟩) ∧ okB b' := by
  have h3 : z.length ≤ 1000000 := h2
  obtain ⟨r, b', h, r0, r1, hb'⟩ := pull_ok b scr own nx z.length hb (by omega) (by omega)
  have e : z.cps.toList.length = z.length := Array.length_toList
  have hr : r.toNat < z.cps.toList.length := by omega
  have ix : ixD (.str z) (.int r) = some (.str ⟨#[z.cps.toList[r.toNat]]⟩) := by
    show (if z.length ≤ big then (atI z.cps.toList r).map fun c => D.str ⟨#[c]⟩ else none) = _
    rw [if_pos h2]
    unfold atI ixN
    rw [if_pos r0, e, if_pos r1, obind_some, List.getElem?_eq_getElem hr] <;> rfl
  refine ⟨z.cps.toList[r.toNat], b', List.getElem_mem hr, run_ret rfl ?_, hb'⟩
  unfold d_l_any
  simp only [gd, runD, callP, kwF, pick, rtP, sqP, asP, parP, nxP, ifP, andV, orV, notV, andT, orT, notT, truP, tstP, truD, isiP, isisP, isTys, isNP, notNP, isNon, varP, chP, cstP, bltP, binP, consP, nilP, lstP, tupP, lcP, itP, rng1P, rng2P, slP, noP, soP, intOf, negP, sosP, bd_ok, List.map, List.replicate, List.length_cons, List.length_nil, List.cons_append, List.nil_append, List.append_nil, List.getElem?_cons_zero, List.getElem?_cons_succ, List.filterMap, List.set, omap_some, obind_some, isTy, blOf, if_t, if_f, lenF, leD_i, leD_s, ltD_i, ltD_s, gtD_i, geD_i, addD_i, subD_i, mulD_i, itemsD, wipeD, Tgt.put, setAll, outR, lb0, lb1, lb2, lb3, lb4, lb5, lb6, lb7, lb8, lb9, lb10, lb11, lb12, allF, listF, tupleF, intF, eq_self_iff_true, if_true, if_false, decide_true, decide_false, Bool.true_and, Bool.false_and, Bool.and_true, Bool.and_false, Bool.not_true, Bool.not_false, Nat.sub_self, Nat.reduceAdd, Nat.reduceSub, Nat.reduceEqDiff, h, ix, if_pos h2]
/-- a list whose items are drawn -/
theorem lc_draw {t : Tgt} {te : EDen} {Δ : Dl} {scr : Option (Addr × List Int)} {own : List (Nat × Cell)} {nx : Nat} {Pd : D → Prop} : ∀ (ds : List D) (b : BagSt) (acc : List D),
    (∀ d ∈ ds, ∃ Δ1, t.put d Δ = some Δ1 ∧ ∀ b, okB b → ∃ y b', te Δ1 ⟨some b, scr, own, nx⟩ = some (.ok y, ⟨some b', scr, own, nx⟩) ∧ Pd y ∧ okB b') → okB b → acc.length + ds.length ≤ big →
    ∃ ys b', lcGo t yesT te Δ ds ⟨some b, scr, own, nx⟩ acc = some (.ok (.lst (acc ++ ys)), ⟨some b', scr, own, nx⟩) ∧ ys.length = ds.length ∧ (∀ y ∈ ys, Pd y) ∧ okB b'
  | [], b, acc, _, hb, _ => ⟨[], b, by simp [lcGo], rfl, by simp, hb⟩
  | d :: ds, b, acc, h, hb, hl => by
    obtain ⟨Δ1, h1, h2⟩ := h d List.mem_cons_self
    obtain ⟨y, b1, e1, py, hb1⟩ := h2 b hb
    rw [List.length_cons] at hl
    obtain ⟨ys, b2, e2, len, all, hb2⟩ := lc_draw ds b1 (acc ++ [y]) (fun x hx => h x (List.mem_cons_of_mem _ hx)) hb1 (by rw [List.length_append, List.length_singleton]; omega)
    refine ⟨y :: ys, b2, ?_, by rw [List.length_cons, List.length_cons, len], fun z hz => ?_, hb2⟩
    · unfold lcGo
      rw [h1, obind_some]
      show (match te Δ1 ⟨some b, scr, own, nx⟩ with | some (.ok y, st2) => if acc.length < big then lcGo t yesT te Δ ds st2 (acc ++ [y]) else none | _ => none) = _
      rw [e1]
      simp only
      rw [if_pos (by omega), e2, List.append_assoc] <;> rfl
    · rcases List.mem_cons.mp hz with e | e
      · rw [e]; exact py
      · exact all z e
/-! ### texts of small letters -/
abbrev abc : Str := "abcdefghijklmnopqrstuvwxyz"
theorem abc_low : ∀ c ∈ abc.cps.toList, lowC c = true := by decide +kernel
theorem abc_mem (c : Nat) : c ∈ abc.cps.toList ↔ lowC c = true := by
  refine ⟨abc_low c, fun h => ?_⟩
  unfold lowC at h
  rw [Bool.and_eq_true, decide_eq_true_eq, decide_eq_true_eq] at h
  have e : abc.cps.toList = (List.range 26).map (97 + ·) := by decide +kernel
  rw [e]
  exact List.mem_map.mpr ⟨c - 97, List.mem_range.mpr (by omega), by omega⟩
theorem low_app (x y : Str) : lowS (x ++ y) = (lowS x && lowS y) := by
  show ((x.cps ++ y.cps).toList.all lowC) = _
  rw [Array.toList_append, List.all_append] <;> rfl
theorem len_app (x y : Str) : (x ++ y).length = x.length + y.length := by
  show (x.cps ++ y.cps).size = _
  rw [Array.size_append] <;> rfl
theorem low_cut (z : Str) (a b : Option Int) (h : lowS z = true) : lowS (cutS z a b) = true := by
  unfold lowS cutS at *
  rw [List.all_eq_true] at h ⊢
  intro c hc
  exact h c (List.mem_of_mem_drop (List.mem_of_mem_take (by simpa using hc)))
theorem len_cut (z : Str) (n : Nat) (h : n ≤ z.length) : (cutS z none (some n)).length = n ∧ (cutS z (some n) none).length = z.length - n := by
  have e : z.cps.toList.length = z.length := Array.length_toList
  unfold cutS
  rw [HT.sIx_none, HT.sIx_none, HT.sIx_nat, HT.sIx_nat]
  constructor
  · show (List.take _ _).toArray.size = n
    rw [List.size_toArray, List.length_take, List.drop_zero, e, Nat.min_eq_left h]
    omega
  · show (List.take _ _).toArray.size = _
    rw [List.size_toArray, List.length_take, List.length_drop, e, Nat.min_eq_left h]
    omega
theorem joinL_one : ∀ cs : List Nat, TL.joinL [] (cs.map fun c => [c]) = cs
  | [] => rfl
  | [c] => rfl
  | c :: d :: r => by
    show [c] ++ ([] ++ TL.joinL [] ((d :: r).map fun c => [c])) = c :: d :: r
    rw [joinL_one (d :: r)] <;> rfl
theorem glue (cs : List Nat) : Txt.join (Str.ofString "") (cs.map fun c => (⟨#[c]⟩ : Str)) = ⟨cs.toArray⟩ := by
  have h := SX.join_S [] (cs.map fun c => [c])
  rw [joinL_one, List.map_map] at h
  exact h
theorem strsD_map (zs : List Str) : strsD (zs.map .str) = some zs := by
  induction zs with
  | nil => rfl
  | cons z zs ih => simp only [List.map_cons, strsD, ih, Option.map]
theorem sum_one (cs : List Nat) : ((cs.map fun c => (⟨#[c]⟩ : Str)).map (·.length)).sum = cs.length := by
  induction cs with
  | nil => rfl
  | cons c cs ih =>
    rw [List.map_cons, List.map_cons, List.sum_cons, ih, List.length_cons, show Str.length ⟨#[c]⟩ = 1 from rfl]
    omega
theorem rng1_ok (r : Int) (h0 : 0 ≤ r) (h1 : r ≤ 1000000) : rng1F [.int r] = some (rngD 0 r) := if_pos ⟨by unfold mil; omega, h1⟩
/-- a name as the law draws it -/
def NameS (z : Str) : Prop := 1 ≤ z.length ∧ z.length ≤ 4 ∧ lowS z = true
theorem rng_mem {lo hi : Int} {d : D} (h : d ∈ rngD lo hi) : ∃ i : Nat, (i : Int) < hi - lo ∧ d = .int (lo + i) := by
  obtain ⟨i, hi, e⟩ := List.mem_map.mp h
  have := List.mem_range.mp hi
  exact ⟨i, by omega, e.symm⟩
theorem rng_len (lo hi : Int) : (rngD lo hi).length = (hi - lo).toNat := by unfold rngD; rw [List.length_map, List.length_range]
theorem names_ok (b : BagSt) (scr : Option (Addr × List Int)) (own : List (Nat × Cell)) (nx : Nat) (m : Int) (hb : okB b) (h1 : 0 ≤ m) (h2 : m ≤ 1000) :
    ∃ (zs : List Str) (b' : BagSt), F_l_names [.hnd 0, .int m] ⟨some b, scr, own, nx⟩ = some (.ok (.lst (zs.map .str)), ⟨some b', scr, own, nx⟩) ∧ zs.length = m.toNat ∧ (∀ z ∈ zs, NameS z) ∧ okB b' ∧ (m ≤ 26 → zs.Nodup) := by
  obtain ⟨r, b1, p1, r0, r1, hb1⟩ := pull_ok b scr own nx 4 hb (by decide) (by decide)
  have rl := rng_len 0 r
  obtain ⟨ys, b2, p2, ly, all, hb2⟩ := lc_draw (t := .one 6) (te := callP F_l_any (consP (varP 0) (consP (varP 2) nilP))) (Δ := [some (.hnd 0), some (.int m), some (.str abc), none, none, none, none]) (scr := scr) (own := own) (nx := nx)
    (Pd := fun y => ∃ c, lowC c = true ∧ y = .str ⟨#[c]⟩) (rngD 0 r) b1 [] (fun d hd => ⟨_, rfl, fun b hb => by
      obtain ⟨c, b', hc, e, hb'⟩ := any_str b scr own nx abc hb (by decide) (by decide +kernel)
      exact ⟨_, b', by simp only [gd, runD, callP, kwF, pick, rtP, sqP, asP, parP, nxP, ifP, andV, orV, notV, andT, orT, notT, truP, tstP, truD, isiP, isisP, isTys, isNP, notNP, isNon, varP, chP, cstP, bltP, binP, consP, nilP, lstP, tupP, lcP, itP, rng1P, rng2P, slP, noP, soP, intOf, negP, sosP, bd_ok, List.map, List.replicate, List.length_cons, List.length_nil, List.cons_append, List.nil_append, List.append_nil, List.getElem?_cons_zero, List.getElem?_cons_succ, List.filterMap, List.set, omap_some, obind_some, isTy, blOf, if_t, if_f, lenF, leD_i, leD_s, ltD_i, ltD_s, gtD_i, geD_i, addD_i, subD_i, mulD_i, itemsD, wipeD, Tgt.put, setAll, outR, lb0, lb1, lb2, lb3, lb4, lb5, lb6, lb7, lb8, lb9, lb10, lb11, lb12, allF, listF, tupleF, intF, eq_self_iff_true, if_true, if_false, decide_true, decide_false, Bool.true_and, Bool.false_and, Bool.and_true, Bool.and_false, Bool.not_true, Bool.not_false, Nat.sub_self, Nat.reduceAdd, Nat.reduceSub, Nat.reduceEqDiff, e], ⟨c, abc_low c hc, rfl⟩, hb'⟩⟩) hb1 (by rw [rl, List.length_nil]; unfold big; omega)
  obtain ⟨cs, rfl, low⟩ : ∃ cs : List Nat, ys = cs.map (fun c => D.str ⟨#[c]⟩) ∧ ∀ c ∈ cs, lowC c = true := by
    clear p2 ly
    induction ys with
    | nil => exact ⟨[], rfl, by simp⟩
    | cons y ys ih =>
      obtain ⟨cs, e, h⟩ := ih fun z hz => all z (List.mem_cons_of_mem _ hz)
      obtain ⟨c, hc, ey⟩ := all y List.mem_cons_self
      refine ⟨c :: cs, by rw [e, ey] <;> rfl, fun x hx => ?_⟩
      rcases List.mem_cons.mp hx with q | q
      · rw [q]; exact hc
      · exact h x q
  rw [List.length_map, rl] at ly
  have len3 : cs.length ≤ 3 := by omega
  have jn : joinF (.str (Str.ofString "")) (.lst (cs.map fun c => D.str ⟨#[c]⟩)) = some (.str ⟨cs.toArray⟩) := by
    have sd : strsD (cs.map fun c => D.str ⟨#[c]⟩) = some (cs.map fun c => ⟨#[c]⟩) := by
      have q := strsD_map (cs.map fun c => (⟨#[c]⟩ : Str))
      rw [List.map_map] at q
      exact q
    show (strsD (cs.map fun c => D.str ⟨#[c]⟩)).bind _ = _
    rw [sd, obind_some, sum_one, List.length_map, show (Str.ofString "").length = 0 from rfl, Nat.mul_zero, Nat.add_zero, if_pos (by unfold big; omega), glue]
  obtain ⟨stem, es⟩ : ∃ s : Str, s = ⟨cs.toArray⟩ := ⟨_, rfl⟩
  have stl : stem.length = cs.length := by rw [es]; show cs.toArray.size = _; rw [List.size_toArray]
  have stw : lowS stem = true := by rw [es]; show (cs.toArray.toList.all lowC) = true; rw [List.all_eq_true]; simpa using low
  rw [← es] at jn
  obtain ⟨at_, b3, p3, a0, a1, hb3⟩ := pull_ok b2 scr own nx (stem.length + 1) hb2 (by omega) (by omega)
  obtain ⟨fi, b4, p4, f0, f1, hb4⟩ := pull_ok b3 scr own nx 26 hb3 (by decide) (by decide)
  obtain ⟨n, rfl⟩ : ∃ n : Nat, at_ = n := ⟨at_.toNat, by omega⟩
  have nl : n ≤ stem.length := by omega
  have stb : stem.length ≤ big := by unfold big; omega
  obtain ⟨c1, c2⟩ := len_cut stem n nl
  have l1 := low_cut stem none (some n) stw
  have l2 := low_cut stem (some n) none stw
  let let_ : Int → Str := fun k => ⟨#[abc.cps.toList.getD ((fi + 7 * k) % 26).toNat 0]⟩
  let mk : Int → Str := fun k => cutS stem none (some n) ++ let_ k ++ cutS stem (some n) none
  have abl : abc.cps.toList.length = 26 := by decide +kernel
  have ix : ∀ k : Int, ixD (.str abc) (.int ((fi + 7 * k) % 26)) = some (.str (let_ k)) := fun k => by
    have h0 : 0 ≤ (fi + 7 * k) % 26 := Int.emod_nonneg _ (by decide)
    have h1 : (fi + 7 * k) % 26 < 26 := Int.emod_lt_of_pos _ (by decide)
    show (if abc.length ≤ big then (atI abc.cps.toList ((fi + 7 * k) % 26)).map fun c => D.str ⟨#[c]⟩ else none) = _
    rw [if_pos (by decide +kernel)]
    unfold atI ixN
    rw [abl, if_pos h0, if_pos (show _ < ((26 : Nat) : Int) from h1), obind_some]
    have hh : ((fi + 7 * k) % 26).toNat < abc.cps.toList.length := by omega
    show Option.map _ _ = some (D.str ⟨#[abc.cps.toList.getD _ 0]⟩)
    rw [List.getElem?_eq_getElem hh, List.getD_eq_getElem?_getD, List.getElem?_eq_getElem hh] <;> rfl
  have letl : ∀ k, lowS (let_ k) = true := fun k => by
    have h1 : (fi + 7 * k) % 26 < 26 := Int.emod_lt_of_pos _ (by decide)
    have hh : ((fi + 7 * k) % 26).toNat < abc.cps.toList.length := by omega
    show ([abc.cps.toList.getD ((fi + 7 * k) % 26).toNat 0].all lowC) = true
    rw [List.getD_eq_getElem?_getD, List.getElem?_eq_getElem hh]
    simpa using abc_low _ (List.getElem_mem hh)
  have lc := lc_pure (t := .one 6) (te := (binP addD (binP addD (slP (varP 3) noP (soP (varP 4))) (binP ixD (varP 2) (binP (intD modI) (bltP intF (consP (binP addD (varP 5) (binP mulD (cstP (.int 7)) (varP 6))) nilP)) (cstP (.int 26))))) (slP (varP 3) (soP (varP 4)) noP)))
    (Δ := [some (.hnd 0), some (.int m), some (.str abc), some (.str stem), some (.int n), some (.int fi), none]) (st := ⟨some b4, scr, own, nx⟩) (fun d => match d with | .int k => .str (mk k) | d => d) (rngD 0 m) [] (fun d hd => by
      obtain ⟨i, hi, rfl⟩ := rng_mem hd
      refine ⟨_, rfl, ?_⟩
      have k7 : mulI 7 (0 + (i : Int)) = some (7 * (0 + (i : Int))) := mulS 7 _ (by decide)
      have lk : (let_ (0 + (i : Int))).length = 1 := rfl
      have ad1 : addD (.str (cutS stem none (some (n : Int)))) (.str (let_ (0 + (i : Int)))) = some (.str (cutS stem none (some (n : Int)) ++ let_ (0 + (i : Int)))) := if_pos (by rw [c1, lk]; unfold big; omega)
      have ad2 : addD (.str (cutS stem none (some (n : Int)) ++ let_ (0 + (i : Int)))) (.str (cutS stem (some (n : Int)) none)) = some (.str (mk (0 + (i : Int)))) := if_pos (by rw [len_app, c1, lk, c2]; unfold big; omega)
      simp only [gd, runD, callP, kwF, pick, rtP, sqP, asP, parP, nxP, ifP, andV, orV, notV, andT, orT, notT, truP, tstP, truD, isiP, isisP, isTys, isNP, notNP, isNon, varP, chP, cstP, bltP, binP, consP, nilP, lstP, tupP, lcP, itP, rng1P, rng2P, slP, noP, soP, intOf, negP, sosP, bd_ok, List.map, List.replicate, List.length_cons, List.length_nil, List.cons_append, List.nil_append, List.append_nil, List.getElem?_cons_zero, List.getElem?_cons_succ, List.filterMap, List.set, omap_some, obind_some, isTy, blOf, if_t, if_f, lenF, leD_i, leD_s, ltD_i, ltD_s, gtD_i, geD_i, addD_i, subD_i, mulD_i, itemsD, wipeD, Tgt.put, setAll, outR, lb0, lb1, lb2, lb3, lb4, lb5, lb6, lb7, lb8, lb9, lb10, lb11, lb12, allF, listF, tupleF, intF, eq_self_iff_true, if_true, if_false, decide_true, decide_false, Bool.true_and, Bool.false_and, Bool.and_true, Bool.and_false, Bool.not_true, Bool.not_false, Nat.sub_self, Nat.reduceAdd, Nat.reduceSub, Nat.reduceEqDiff, slD, if_pos stb, ix, k7, modD _ 26 (by decide), ad1, ad2]) (by rw [rng_len, List.length_nil]; unfold big; omega)
  refine ⟨(List.range (m - 0).toNat).map fun i => mk (0 + (i : Nat)), b4, run_ret rfl ?_, ?_, ?_, hb4, ?_⟩
  · unfold d_l_names
    rw [List.nil_append] at p2 lc
    (apply sq_step; focus (simp only [gd, runD, callP, kwF, pick, rtP, sqP, asP, parP, nxP, ifP, andV, orV, notV, andT, orT, notT, truP, tstP, truD, isiP, isisP, isTys, isNP, notNP, isNon, varP, chP, cstP, bltP, binP, consP, nilP, lstP, tupP, lcP, itP, rng1P, rng2P, slP, noP, soP, intOf, negP, sosP, bd_ok, List.map, List.replicate, List.length_cons, List.length_nil, List.cons_append, List.nil_append, List.append_nil, List.getElem?_cons_zero, List.getElem?_cons_succ, List.filterMap, List.set, omap_some, obind_some, isTy, blOf, if_t, if_f, lenF, leD_i, leD_s, ltD_i, ltD_s, gtD_i, geD_i, addD_i, subD_i, mulD_i, itemsD, wipeD, Tgt.put, setAll, outR, lb0, lb1, lb2, lb3, lb4, lb5, lb6, lb7, lb8, lb9, lb10, lb11, lb12, allF, listF, tupleF, intF, eq_self_iff_true, if_true, if_false, decide_true, decide_false, Bool.true_and, Bool.false_and, Bool.and_true, Bool.and_false, Bool.not_true, Bool.not_false, Nat.sub_self, Nat.reduceAdd, Nat.reduceSub, Nat.reduceEqDiff]; first | done | rfl))
    (apply sq_step; focus (simp only [gd, runD, callP, kwF, pick, rtP, sqP, asP, parP, nxP, ifP, andV, orV, notV, andT, orT, notT, truP, tstP, truD, isiP, isisP, isTys, isNP, notNP, isNon, varP, chP, cstP, bltP, binP, consP, nilP, lstP, tupP, lcP, itP, rng1P, rng2P, slP, noP, soP, intOf, negP, sosP, bd_ok, List.map, List.replicate, List.length_cons, List.length_nil, List.cons_append, List.nil_append, List.append_nil, List.getElem?_cons_zero, List.getElem?_cons_succ, List.filterMap, List.set, omap_some, obind_some, isTy, blOf, if_t, if_f, lenF, leD_i, leD_s, ltD_i, ltD_s, gtD_i, geD_i, addD_i, subD_i, mulD_i, itemsD, wipeD, Tgt.put, setAll, outR, lb0, lb1, lb2, lb3, lb4, lb5, lb6, lb7, lb8, lb9, lb10, lb11, lb12, allF, listF, tupleF, intF, eq_self_iff_true, if_true, if_false, decide_true, decide_false, Bool.true_and, Bool.false_and, Bool.and_true, Bool.and_false, Bool.not_true, Bool.not_false, Nat.sub_self, Nat.reduceAdd, Nat.reduceSub, Nat.reduceEqDiff, p1, rng1_ok r r0 (by omega), p2, jn]; first | done | rfl))
    (apply sq_step; focus (simp only [gd, runD, callP, kwF, pick, rtP, sqP, asP, parP, nxP, ifP, andV, orV, notV, andT, orT, notT, truP, tstP, truD, isiP, isisP, isTys, isNP, notNP, isNon, varP, chP, cstP, bltP, binP, consP, nilP, lstP, tupP, lcP, itP, rng1P, rng2P, slP, noP, soP, intOf, negP, sosP, bd_ok, List.map, List.replicate, List.length_cons, List.length_nil, List.cons_append, List.nil_append, List.append_nil, List.getElem?_cons_zero, List.getElem?_cons_succ, List.filterMap, List.set, omap_some, obind_some, isTy, blOf, if_t, if_f, lenF, leD_i, leD_s, ltD_i, ltD_s, gtD_i, geD_i, addD_i, subD_i, mulD_i, itemsD, wipeD, Tgt.put, setAll, outR, lb0, lb1, lb2, lb3, lb4, lb5, lb6, lb7, lb8, lb9, lb10, lb11, lb12, allF, listF, tupleF, intF, eq_self_iff_true, if_true, if_false, decide_true, decide_false, Bool.true_and, Bool.false_and, Bool.and_true, Bool.and_false, Bool.not_true, Bool.not_false, Nat.sub_self, Nat.reduceAdd, Nat.reduceSub, Nat.reduceEqDiff, if_pos stb, p3, p4]; first | done | rfl))
    simp only [gd, runD, callP, kwF, pick, rtP, sqP, asP, parP, nxP, ifP, andV, orV, notV, andT, orT, notT, truP, tstP, truD, isiP, isisP, isTys, isNP, notNP, isNon, varP, chP, cstP, bltP, binP, consP, nilP, lstP, tupP, lcP, itP, rng1P, rng2P, slP, noP, soP, intOf, negP, sosP, bd_ok, List.map, List.replicate, List.length_cons, List.length_nil, List.cons_append, List.nil_append, List.append_nil, List.getElem?_cons_zero, List.getElem?_cons_succ, List.filterMap, List.set, omap_some, obind_some, isTy, blOf, if_t, if_f, lenF, leD_i, leD_s, ltD_i, ltD_s, gtD_i, geD_i, addD_i, subD_i, mulD_i, itemsD, wipeD, Tgt.put, setAll, outR, lb0, lb1, lb2, lb3, lb4, lb5, lb6, lb7, lb8, lb9, lb10, lb11, lb12, allF, listF, tupleF, intF, eq_self_iff_true, if_true, if_false, decide_true, decide_false, Bool.true_and, Bool.false_and, Bool.and_true, Bool.and_false, Bool.not_true, Bool.not_false, Nat.sub_self, Nat.reduceAdd, Nat.reduceSub, Nat.reduceEqDiff, rng1_ok m h1 (by omega), lc]
    unfold rngD
    rw [List.map_map, List.map_map]
    rfl
  · rw [List.length_map, List.length_range]
    omega
  · intro z hz
    obtain ⟨i, _, rfl⟩ := List.mem_map.mp hz
    have lk : (let_ (0 + (i : Int))).length = 1 := rfl
    refine ⟨?_, ?_, ?_⟩
    · show 1 ≤ (cutS stem none (some (n : Int)) ++ let_ _ ++ cutS stem (some (n : Int)) none).length
      rw [len_app, len_app, c1, c2, lk]; omega
    · show (cutS stem none (some (n : Int)) ++ let_ _ ++ cutS stem (some (n : Int)) none).length ≤ 4
      rw [len_app, len_app, c1, c2, lk]; omega
    · show lowS (cutS stem none (some (n : Int)) ++ let_ _ ++ cutS stem (some (n : Int)) none) = true
      rw [low_app, low_app, l1, l2, letl] <;> rfl
  · intro h26
    refine List.Pairwise.map _ (fun i j h => ?_) (R := fun i j : Nat => i ≠ j ∧ i < 26 ∧ j < 26) ?_
    · obtain ⟨hne, hi, hj⟩ := h
      intro e
      apply hne
      have e1 : (cutS stem none (some (n : Int)) ++ let_ (0 + (i : Int)) ++ cutS stem (some (n : Int)) none).cps.toList = (cutS stem none (some (n : Int)) ++ let_ (0 + (j : Int)) ++ cutS stem (some (n : Int)) none).cps.toList := congrArg (fun z : Str => z.cps.toList) e
      have ap : ∀ x y : Str, (x ++ y).cps.toList = x.cps.toList ++ y.cps.toList := fun x y => by show (x.cps ++ y.cps).toList = _; rw [Array.toList_append]
      rw [ap, ap, ap, ap] at e1
      have e2 := List.append_cancel_left (List.append_cancel_right e1)
      have e3 : [abc.cps.toList.getD ((fi + 7 * (0 + (i : Int))) % 26).toNat 0] = [abc.cps.toList.getD ((fi + 7 * (0 + (j : Int))) % 26).toNat 0] := e2
      have ab : abc.cps.toList = (List.range 26).map (97 + ·) := by decide +kernel
      have at_ : ∀ k : Nat, k < 26 → abc.cps.toList.getD k 0 = 97 + k := fun k hk => by
        rw [ab, List.getD_eq_getElem?_getD, List.getElem?_map, List.getElem?_range hk]; rfl
      rw [at_ _ (by omega), at_ _ (by omega)] at e3
      have e4 := List.head_eq_of_cons_eq e3
      omega
    · have nd : (List.range (m - 0).toNat).Pairwise (fun i j => i ≠ j) := List.nodup_range
      refine List.Pairwise.imp_of_mem (fun {i j} hi hj h => ⟨h, ?_, ?_⟩) nd
      · have := List.mem_range.mp hi; omega
      · have := List.mem_range.mp hj; omega
end Dn

set_option Elab.async false
set_option linter.all false
set_option maxRecDepth 100000
set_option maxHeartbeats 4000000
namespace Dn
open PySem PySem.Spec PyProof.Rows L2
theorem eqD_b (a b : Bool) : eqD (.bl a) (.bl b) = some (.bl (a == b)) := by cases a <;> cases b <;> rfl
theorem neD_b (a b : Bool) : neD (.bl a) (.bl b) = some (.bl (!(a == b))) := by cases a <;> cases b <;> rfl
theorem same_bl (n : Nat) (b : Bool) (st : Sta) : F_l_same (n + 1) [.bl b, .bl b] st = some (.ok (.bl true), st) := by
  refine run_ret rfl ?_
  unfold d_l_same
  simp only [gd, runD, callP, kwF, pick, rtP, sqP, asP, parP, nxP, ifP, andV, orV, notV, andT, orT, notT, truP, tstP, truD, isiP, isisP, isTys, isNP, notNP, isNon, varP, chP, cstP, bltP, binP, consP, nilP, lstP, tupP, lcP, itP, rng1P, rng2P, slP, noP, soP, intOf, negP, sosP, bd_ok, List.map, List.replicate, List.length_cons, List.length_nil, List.cons_append, List.nil_append, List.append_nil, List.getElem?_cons_zero, List.getElem?_cons_succ, List.filterMap, List.set, omap_some, obind_some, isTy, blOf, if_t, if_f, lenF, leD_i, leD_s, ltD_i, ltD_s, gtD_i, geD_i, addD_i, subD_i, mulD_i, itemsD, wipeD, Tgt.put, setAll, outR, lb0, lb1, lb2, lb3, lb4, lb5, lb6, lb7, lb8, lb9, lb10, lb11, lb12, allF, listF, tupleF, intF, eq_self_iff_true, if_true, if_false, decide_true, decide_false, Bool.true_and, Bool.false_and, Bool.and_true, Bool.and_false, Bool.not_true, Bool.not_false, Nat.sub_self, Nat.reduceAdd, Nat.reduceSub, Nat.reduceEqDiff, eqD_b, neD_b, beq_self_eq_true]
theorem zip_same (ds : List D) : zipL ds ds = ds.map fun d => .tup [d, d] := by
  induction ds with
  | nil => rfl
  | cons d ds ih => simp only [zipL, List.map_cons, ih]
theorem same_bls (n : Nat) (bs : List Bool) (st : Sta) (h : bs.length ≤ big) : F_l_same (n + 2) [.lst (bs.map .bl), .lst (bs.map .bl)] st = some (.ok (.bl true), st) := by
  have lc := lc_pure (t := .tup [2, 3]) (te := callP (F_l_same (n + 1)) (consP (varP 2) (consP (varP 3) nilP))) (Δ := [some (.lst (bs.map .bl)), some (.lst (bs.map .bl)), none, none]) (st := st) (fun _ => .bl true) (zipL (bs.map .bl) (bs.map .bl)) [] (fun d hd => by
    rw [zip_same] at hd
    obtain ⟨x, hx, rfl⟩ := List.mem_map.mp hd
    obtain ⟨b, _, rfl⟩ := List.mem_map.mp hx
    exact ⟨_, rfl, by simp only [gd, runD, callP, kwF, pick, rtP, sqP, asP, parP, nxP, ifP, andV, orV, notV, andT, orT, notT, truP, tstP, truD, isiP, isisP, isTys, isNP, notNP, isNon, varP, chP, cstP, bltP, binP, consP, nilP, lstP, tupP, lcP, itP, rng1P, rng2P, slP, noP, soP, intOf, negP, sosP, bd_ok, List.map, List.replicate, List.length_cons, List.length_nil, List.cons_append, List.nil_append, List.append_nil, List.getElem?_cons_zero, List.getElem?_cons_succ, List.filterMap, List.set, omap_some, obind_some, isTy, blOf, if_t, if_f, lenF, leD_i, leD_s, ltD_i, ltD_s, gtD_i, geD_i, addD_i, subD_i, mulD_i, itemsD, wipeD, Tgt.put, setAll, outR, lb0, lb1, lb2, lb3, lb4, lb5, lb6, lb7, lb8, lb9, lb10, lb11, lb12, allF, listF, tupleF, intF, eq_self_iff_true, if_true, if_false, decide_true, decide_false, Bool.true_and, Bool.false_and, Bool.and_true, Bool.and_false, Bool.not_true, Bool.not_false, Nat.sub_self, Nat.reduceAdd, Nat.reduceSub, Nat.reduceEqDiff, same_bl]⟩) (by rw [zip_same, List.length_map, List.length_map, List.length_nil]; omega)
  have all : ∀ ds : List D, bls (ds.map fun _ => D.bl true) = some (ds.map fun _ => true) := fun ds => by
    have := bls_map (ds.map fun _ => true)
    rw [List.map_map] at this
    exact this
  rw [List.nil_append] at lc
  refine run_ret rfl ?_
  unfold d_l_same
  have zf : zipF [.lst (bs.map .bl), .lst (bs.map .bl)] = some (zipL (bs.map .bl) (bs.map .bl)) := rfl
  simp only [gd, runD, callP, kwF, pick, rtP, sqP, asP, parP, nxP, ifP, andV, orV, notV, andT, orT, notT, truP, tstP, truD, isiP, isisP, isTys, isNP, notNP, isNon, varP, chP, cstP, bltP, binP, consP, nilP, lstP, tupP, lcP, itP, rng1P, rng2P, slP, noP, soP, intOf, negP, sosP, bd_ok, List.map, List.replicate, List.length_cons, List.length_nil, List.cons_append, List.nil_append, List.append_nil, List.getElem?_cons_zero, List.getElem?_cons_succ, List.filterMap, List.set, omap_some, obind_some, isTy, blOf, if_t, if_f, lenF, leD_i, leD_s, ltD_i, ltD_s, gtD_i, geD_i, addD_i, subD_i, mulD_i, itemsD, wipeD, Tgt.put, setAll, outR, lb0, lb1, lb2, lb3, lb4, lb5, lb6, lb7, lb8, lb9, lb10, lb11, lb12, allF, listF, tupleF, intF, eq_self_iff_true, if_true, if_false, decide_true, decide_false, Bool.true_and, Bool.false_and, Bool.and_true, Bool.and_false, Bool.not_true, Bool.not_false, Nat.sub_self, Nat.reduceAdd, Nat.reduceSub, Nat.reduceEqDiff, neD_b, eqD_i, beq_self_eq_true, zipP, zf, lc, all]
  have : ((zipL (bs.map D.bl) (bs.map D.bl)).map fun _ => true).all id = true := by rw [List.all_eq_true]; intro x hx; obtain ⟨_, _, rfl⟩ := List.mem_map.mp hx; rfl
  rw [this]
end Dn

set_option Elab.async false
set_option linter.all false
set_option maxRecDepth 100000
set_option maxHeartbeats 4000000
namespace Dn
open PySem PySem.Spec PyProof.Rows L2
theorem lc_map {α : Type} {t : Tgt} {te : EDen} {Δ : Dl} {st : Sta} (f g : α → D) (xs : List α) (h : ∀ x ∈ xs, ∃ Δ1, t.put (f x) Δ = some Δ1 ∧ te Δ1 st = some (.ok (g x), st)) (hl : xs.length ≤ big) :
    lcGo t yesT te Δ (xs.map f) st [] = some (.ok (.lst (xs.map g)), st) := by
  have key : ∀ (ys : List α) (acc : List D), (∀ x ∈ ys, ∃ Δ1, t.put (f x) Δ = some Δ1 ∧ te Δ1 st = some (.ok (g x), st)) → acc.length + ys.length ≤ big → lcGo t yesT te Δ (ys.map f) st acc = some (.ok (.lst (acc ++ ys.map g)), st) := by
    intro ys
    induction ys with
    | nil => intro acc _ _; simp [lcGo]
    | cons y ys ih =>
      intro acc h hl
      obtain ⟨Δ1, h1, h2⟩ := h y List.mem_cons_self
      rw [List.length_cons] at hl
      rw [List.map_cons]
      unfold lcGo
      rw [h1, obind_some]
      show (match te Δ1 st with | some (.ok y, st2) => if acc.length < big then lcGo t yesT te Δ (ys.map f) st2 (acc ++ [y]) else none | _ => none) = _
      rw [h2]
      simp only
      rw [if_pos (by omega), ih (acc ++ [g y]) (fun x hx => h x (List.mem_cons_of_mem _ hx)) (by rw [List.length_append, List.length_singleton]; omega), List.append_assoc] <;> rfl
  have := key xs [] h (by simpa using hl)
  rwa [List.nil_append] at this
theorem lc_filt {α : Type} {t : Tgt} {tt : TDen} {te : EDen} {Δ : Dl} {st : Sta} (f : α → D) (p : α → Bool) (g : α → D) (ys : List α) (acc : List D) (h : ∀ x ∈ ys, ∃ Δ1, t.put (f x) Δ = some Δ1 ∧ tt Δ1 st = some (.ok (p x), st) ∧ (p x = true → te Δ1 st = some (.ok (g x), st)))
    (hl : acc.length + ys.length ≤ big) : lcGo t tt te Δ (ys.map f) st acc = some (.ok (.lst (acc ++ (ys.filter p).map g)), st) := by
  induction ys generalizing acc with
  | nil => simp [lcGo]
  | cons y ys ih =>
    obtain ⟨Δ1, h1, h2, h3⟩ := h y List.mem_cons_self
    rw [List.length_cons] at hl
    rw [List.map_cons]
    unfold lcGo
    rw [h1, obind_some, h2]
    cases hp : p y with
    | false =>
      simp only
      rw [ih acc (fun x hx => h x (List.mem_cons_of_mem _ hx)) (by omega), List.filter_cons_of_neg (by rw [hp]; exact Bool.false_ne_true)]
    | true =>
      simp only
      rw [h3 hp]
      simp only
      rw [if_pos (by omega), ih (acc ++ [g y]) (fun x hx => h x (List.mem_cons_of_mem _ hx)) (by rw [List.length_append, List.length_singleton]; omega), List.append_assoc, List.filter_cons_of_pos hp] <;> rfl
theorem fo_inv {g : Tgt} {tb : SDen} (P : Nat → Dl → Sta → Prop) : ∀ (ds : List D) (k : Nat) (Δ : Dl) (st : Sta), P k Δ st →
    (∀ (i : Nat) (d : D), ds[i]? = some d → ∀ Δ st, P (k + i) Δ st → ∃ Δ1 Δ2 st2, g.put d Δ = some Δ1 ∧ tb Δ1 st = some (.ok (.nx Δ2), st2) ∧ P (k + i + 1) Δ2 st2) →
    ∃ Δ' st', foGo g tb ds Δ st = some (.ok (.nx Δ'), st') ∧ P (k + ds.length) Δ' st'
  | [], k, Δ, st, h, _ => ⟨Δ, st, rfl, h⟩
  | d :: ds, k, Δ, st, h, hs => by
    obtain ⟨Δ1, Δ2, st2, h1, h2, h3⟩ := hs 0 d rfl Δ st h
    obtain ⟨Δ', st', h4, h5⟩ := fo_inv P ds (k + 1) Δ2 st2 h3 fun i e he Δ st hp => by
      have q := hs (i + 1) e (by simpa using he) Δ st (by rw [show k + (i + 1) = k + 1 + i by omega]; exact hp)
      rwa [show k + (i + 1) + 1 = k + 1 + i + 1 by omega] at q
    refine ⟨Δ', st', ?_, by rw [List.length_cons, show k + (ds.length + 1) = k + 1 + ds.length by omega]; exact h5⟩
    unfold foGo
    rw [h1, obind_some, h2]
    exact h4
theorem fo_pure {α : Type} {g : Tgt} {tb : SDen} (f : α → D) (xs : List α) (I : Dl → Prop) (Δ : Dl) (st : Sta) (h0 : I Δ) (hs : ∀ x ∈ xs, ∀ Δ, I Δ → ∃ Δ1, g.put (f x) Δ = some Δ1 ∧ tb Δ1 st = some (.ok (.nx Δ1), st) ∧ I Δ1) :
    ∃ Δ', foGo g tb (xs.map f) Δ st = some (.ok (.nx Δ'), st) ∧ I Δ' := by
  induction xs generalizing Δ with
  | nil => exact ⟨Δ, rfl, h0⟩
  | cons x xs ih =>
    obtain ⟨Δ1, h1, h2, h3⟩ := hs x List.mem_cons_self Δ h0
    obtain ⟨Δ', h4, h5⟩ := ih Δ1 h3 fun y hy => hs y (List.mem_cons_of_mem _ hy)
    refine ⟨Δ', ?_, h5⟩
    rw [List.map_cons]
    unfold foGo
    rw [h1, obind_some, h2]
    exact h4
theorem run_nx {t : SDen} {n k : Nat} {ds : List D} {st st1 : Sta} {Δ : Dl} (hk : ds.length = k) (h : t (ds.map some ++ List.replicate (n - ds.length) none) st = some (.ok (.nx Δ), st1)) : gd k (runD t n) ds st = some (.ok .non, st1) := by
  unfold gd runD
  rw [if_pos hk, h] <;> rfl
theorem blsT {α : Type} (xs : List α) : bls (xs.map fun _ => D.bl true) = some (List.replicate xs.length true) := by
  have := bls_map (xs.map fun _ => true)
  rw [List.map_map] at this
  rw [show (xs.map fun _ => D.bl true) = xs.map (D.bl ∘ fun _ => true) from rfl, this, List.map_const']
theorem all_rep (n : Nat) : (List.replicate n true).all id = true := by rw [List.all_eq_true]; intro x hx; rw [List.eq_of_mem_replicate hx]; rfl
theorem rngN' (n : Nat) (h : n ≤ 1000000) : rng1F [.int n] = some ((List.range n).map fun k => .int (k : Nat)) := by
  have e : rng1F [.int n] = some (rngD 0 n) := if_pos ⟨by unfold mil; omega, by unfold mil; omega⟩
  rw [e]
  unfold rngD
  rw [Int.sub_zero, Int.toNat_natCast]
  simp
theorem NameS.big {z : Str} (h : NameS z) : z.length ≤ Dn.big := by
  obtain ⟨_, h2, _⟩ := h
  unfold Dn.big; omega
theorem in_pair (x a b : Int) : inD (.int x) (.tup [.int a, .int b]) = some (.bl ((a == x) || (b == x))) := by
  show some (D.bl (inV (.int x) [.int a, .int b])) = _
  unfold inV
  simp only [List.any_cons, List.any_nil, eqV, Bool.or_false]
theorem look_put (st : Sta) (n : Nat) (c : Cell) : (st.put n c).look n = some c := by
  unfold Sta.look Sta.put
  simp
theorem toVs_strs (zs : List Str) : toVs (zs.map .str) = some (zs.map .str) := by
  induction zs with
  | nil => rfl
  | cons z zs ih => simp only [List.map_cons, toVs, toV, ih, Option.bind, Option.map]
theorem inV_strs (x : Str) (zs : List Str) : inV (.str x) (zs.map .str) = decide (x ∈ zs) := by
  unfold inV
  rw [List.any_map, Bool.eq_iff_iff, List.any_eq_true, decide_eq_true_eq]
  constructor
  · rintro ⟨y, hy, e⟩
    have : (y == x) = true := e
    rw [beq_iff_eq.mp this] at hy
    exact hy
  · intro h
    exact ⟨x, h, by show (x == x) = true; simp⟩
theorem in_lst (x : Str) (zs : List Str) : inD (.str x) (.lst (zs.map .str)) = some (.bl (decide (x ∈ zs))) := by
  show ((some (V.str x)).bind fun v => (toVs (zs.map .str)).map fun vs => inV v vs).map D.bl = _
  rw [toVs_strs, obind_some, omap_some, omap_some, inV_strs]
theorem in_tup (x : Str) (zs : List Str) : inD (.str x) (.tup (zs.map .str)) = some (.bl (decide (x ∈ zs))) := by
  show ((some (V.str x)).bind fun v => (toVs (zs.map .str)).map fun vs => inV v vs).map D.bl = _
  rw [toVs_strs, obind_some, omap_some, omap_some, inV_strs]
theorem cut_take (ds : List D) (i : Nat) (h : i ≤ ds.length) : cutL ds none (some (i : Int)) = ds.take i := by
  unfold cutL
  rw [HT.sIx_none, HT.sIx_nat, List.drop_zero, Nat.sub_zero, Nat.min_eq_left h]
def Sta.neu (st : Sta) (c : Cell) : Sta := { st with own := (st.next + 1, c) :: st.own, next := st.next + 1 }
theorem look_neu (st : Sta) (c : Cell) : (st.neu c).look (st.next + 1) = some c := by
  unfold Sta.neu Sta.look
  simp
theorem sort_okW (zs : List Str) (h : zs.length < 64) : sortF [.lst (zs.map .str)] = some (.lst ((srtS zs).map .str)) := by
  show (strsD (zs.map .str)).bind _ = _
  rw [strsD_map, obind_some, if_pos h]
inductive Pl : Nat → D → Prop
  | non {n : Nat} : Pl n .non
  | bl {n : Nat} (b : Bool) : Pl n (.bl b)
  | int {n : Nat} (i : Int) : Pl n (.int i)
  | str {n : Nat} {z : Str} : z.cps.all (· < 0x110000) = true → z.length ≤ big → Pl n (.str z)
  | lst {n : Nat} {ds : List D} : (∀ x ∈ ds, Pl n x) → ds.length ≤ big → Pl (n + 1) (.lst ds)
  | tup {n : Nat} {ds : List D} : (∀ x ∈ ds, Pl n x) → ds.length ≤ big → Pl (n + 1) (.tup ds)
theorem Pl.mono : ∀ {n m : Nat} {d : D}, Pl n d → n ≤ m → Pl m d
  | _, _, _, .non, _ => .non
  | _, _, _, .bl b, _ => .bl b
  | _, _, _, .int i, _ => .int i
  | _, _, _, .str h l, _ => .str h l
  | n + 1, m + 1, _, .lst h l, q => .lst (fun x hx => (h x hx).mono (Nat.le_of_succ_le_succ q)) l
  | n + 1, m + 1, _, .tup h l, q => .tup (fun x hx => (h x hx).mono (Nat.le_of_succ_le_succ q)) l
theorem pys_all {n : Nat} : ∀ {ds : List D}, (∀ x ∈ ds, ∃ p, toPy x = some p ∧ PyData.canLay0 p = true ∧ PyData.depth p ≤ n) → ∃ ps, toPys ds = some ps ∧ PyData.canLayAll0 ps = true ∧ PyData.depthAll ps ≤ n
  | [], _ => ⟨[], rfl, rfl, Nat.zero_le _⟩
  | d :: ds, h => by
    obtain ⟨p, h1, h2, h3⟩ := h d List.mem_cons_self
    obtain ⟨ps, g1, g2, g3⟩ := pys_all (ds := ds) fun x hx => h x (List.mem_cons_of_mem _ hx)
    refine ⟨p :: ps, by simp only [toPys, h1, g1, Option.bind, Option.map], ?_, ?_⟩
    · unfold PyData.canLayAll0
      rw [h2, g2] <;> rfl
    · unfold PyData.depthAll
      omega
theorem Pl.py : ∀ {n : Nat} {d : D}, Pl n d → ∃ p, toPy d = some p ∧ PyData.canLay0 p = true ∧ PyData.depth p ≤ n
  | _, _, .non => ⟨.none, rfl, rfl, Nat.zero_le _⟩
  | _, _, .bl b => ⟨.bool b, rfl, rfl, Nat.zero_le _⟩
  | _, _, .int i => ⟨.int i, rfl, rfl, Nat.zero_le _⟩
  | _, _, .str (z := z) h _ => ⟨.str z, rfl, h, Nat.zero_le _⟩
  | _, _, .lst h _ => by
    obtain ⟨ps, h1, h2, h3⟩ := pys_all fun x hx => (h x hx).py
    refine ⟨.list ps, by simp only [toPy, h1, Option.map], h2, ?_⟩
    unfold PyData.depth
    omega
  | _, _, .tup h _ => by
    obtain ⟨ps, h1, h2, h3⟩ := pys_all fun x hx => (h x hx).py
    refine ⟨.tuple ps, by simp only [toPy, h1, Option.map], h2, ?_⟩
    unfold PyData.depth
    omega
theorem Pl.sh {n : Nat} {d : D} (h : Pl n d) (hn : n ≤ 64) : ∃ p, shP d = some p ∧ PyData.eqv p p = true := by
  obtain ⟨p, h1, h2, h3⟩ := h.py
  refine ⟨p, ?_, SeqAt.eqv_refl p h2⟩
  unfold shP
  rw [h1, obind_some]
  exact if_pos (by unfold SeqAt.shaped; rw [h2, decide_eq_true (show p.depth ≤ 64 by omega)]; rfl)
theorem Pl.eqD {n : Nat} {d : D} (h : Pl n d) (hn : n ≤ 64) : Dn.eqD d d = some (.bl true) := by
  obtain ⟨p, h1, h2⟩ := h.sh hn
  unfold Dn.eqD eqB
  rw [h1, obind_some, omap_some, omap_some, h2]
theorem Pl.neD {n : Nat} {d : D} (h : Pl n d) (hn : n ≤ 64) : Dn.neD d d = some (.bl false) := by
  obtain ⟨p, h1, h2⟩ := h.sh hn
  unfold Dn.neD eqB
  rw [h1, obind_some, omap_some, omap_some, h2]; rfl
theorem lc_same {k : Nat} (ds : List D) (a b : D) (st : Sta) (h : ∀ x ∈ ds, F_l_same k [x, x] st = some (.ok (.bl true), st)) (hl : ds.length ≤ big) :
    lcGo (.tup [2, 3]) yesT (callP (F_l_same k) (consP (varP 2) (consP (varP 3) nilP))) [some a, some b, none, none] (zipL ds ds) st [] = some (.ok (.lst (ds.map fun _ => .bl true)), st) := by
  rw [zip_same]
  exact lc_map (fun d => D.tup [d, d]) (fun _ => .bl true) ds (fun x hx => ⟨_, rfl, by simp only [gd, runD, callP, kwF, pick, rtP, sqP, asP, parP, nxP, ifP, andV, orV, notV, andT, orT, notT, truP, tstP, truD, isiP, isisP, isTys, isNP, notNP, isNon, varP, chP, cstP, bltP, binP, consP, nilP, lstP, tupP, lcP, itP, rng1P, rng2P, slP, noP, soP, intOf, negP, sosP, bd_ok, List.map, List.replicate, List.length_cons, List.length_nil, List.cons_append, List.nil_append, List.append_nil, List.getElem?_cons_zero, List.getElem?_cons_succ, List.filterMap, List.set, omap_some, obind_some, isTy, blOf, if_t, if_f, lenF, leD_i, leD_s, ltD_i, ltD_s, gtD_i, geD_i, addD_i, subD_i, mulD_i, itemsD, wipeD, Tgt.put, setAll, outR, lb0, lb1, lb2, lb3, lb4, lb5, lb6, lb7, lb8, lb9, lb10, lb11, lb12, allF, listF, tupleF, intF, eq_self_iff_true, if_true, if_false, decide_true, decide_false, Bool.true_and, Bool.false_and, Bool.and_true, Bool.and_false, Bool.not_true, Bool.not_false, Nat.sub_self, Nat.reduceAdd, Nat.reduceSub, Nat.reduceEqDiff, h x hx]⟩) hl
theorem same_refl : ∀ {n : Nat} {d : D}, Pl n d → ∀ (k : Nat) (st : Sta), n < k → n ≤ 64 → F_l_same k [d, d] st = some (.ok (.bl true), st)
  | _, _, .non, k + 1, st, _, _ => by
    refine run_ret rfl ?_
    unfold d_l_same
    simp only [gd, runD, callP, kwF, pick, rtP, sqP, asP, parP, nxP, ifP, andV, orV, notV, andT, orT, notT, truP, tstP, truD, isiP, isisP, isTys, isNP, notNP, isNon, varP, chP, cstP, bltP, binP, consP, nilP, lstP, tupP, lcP, itP, rng1P, rng2P, slP, noP, soP, intOf, negP, sosP, bd_ok, List.map, List.replicate, List.length_cons, List.length_nil, List.cons_append, List.nil_append, List.append_nil, List.getElem?_cons_zero, List.getElem?_cons_succ, List.filterMap, List.set, omap_some, obind_some, isTy, blOf, if_t, if_f, lenF, leD_i, leD_s, ltD_i, ltD_s, gtD_i, geD_i, addD_i, subD_i, mulD_i, itemsD, wipeD, Tgt.put, setAll, outR, lb0, lb1, lb2, lb3, lb4, lb5, lb6, lb7, lb8, lb9, lb10, lb11, lb12, allF, listF, tupleF, intF, eq_self_iff_true, if_true, if_false, decide_true, decide_false, Bool.true_and, Bool.false_and, Bool.and_true, Bool.and_false, Bool.not_true, Bool.not_false, Nat.sub_self, Nat.reduceAdd, Nat.reduceSub, Nat.reduceEqDiff, neD_b, eqD_b, beq_self_eq_true]
  | _, _, .bl b, k + 1, st, _, _ => same_bl k b st
  | n, _, .int i, k + 1, st, _, hn => by
    refine run_ret rfl ?_
    unfold d_l_same
    simp only [gd, runD, callP, kwF, pick, rtP, sqP, asP, parP, nxP, ifP, andV, orV, notV, andT, orT, notT, truP, tstP, truD, isiP, isisP, isTys, isNP, notNP, isNon, varP, chP, cstP, bltP, binP, consP, nilP, lstP, tupP, lcP, itP, rng1P, rng2P, slP, noP, soP, intOf, negP, sosP, bd_ok, List.map, List.replicate, List.length_cons, List.length_nil, List.cons_append, List.nil_append, List.append_nil, List.getElem?_cons_zero, List.getElem?_cons_succ, List.filterMap, List.set, omap_some, obind_some, isTy, blOf, if_t, if_f, lenF, leD_i, leD_s, ltD_i, ltD_s, gtD_i, geD_i, addD_i, subD_i, mulD_i, itemsD, wipeD, Tgt.put, setAll, outR, lb0, lb1, lb2, lb3, lb4, lb5, lb6, lb7, lb8, lb9, lb10, lb11, lb12, allF, listF, tupleF, intF, eq_self_iff_true, if_true, if_false, decide_true, decide_false, Bool.true_and, Bool.false_and, Bool.and_true, Bool.and_false, Bool.not_true, Bool.not_false, Nat.sub_self, Nat.reduceAdd, Nat.reduceSub, Nat.reduceEqDiff, neD_b, eqD_b, beq_self_eq_true, (Pl.int (n := n) i).eqD hn]
  | n, _, .str (z := z) h l, k + 1, st, _, hn => by
    refine run_ret rfl ?_
    unfold d_l_same
    simp only [gd, runD, callP, kwF, pick, rtP, sqP, asP, parP, nxP, ifP, andV, orV, notV, andT, orT, notT, truP, tstP, truD, isiP, isisP, isTys, isNP, notNP, isNon, varP, chP, cstP, bltP, binP, consP, nilP, lstP, tupP, lcP, itP, rng1P, rng2P, slP, noP, soP, intOf, negP, sosP, bd_ok, List.map, List.replicate, List.length_cons, List.length_nil, List.cons_append, List.nil_append, List.append_nil, List.getElem?_cons_zero, List.getElem?_cons_succ, List.filterMap, List.set, omap_some, obind_some, isTy, blOf, if_t, if_f, lenF, leD_i, leD_s, ltD_i, ltD_s, gtD_i, geD_i, addD_i, subD_i, mulD_i, itemsD, wipeD, Tgt.put, setAll, outR, lb0, lb1, lb2, lb3, lb4, lb5, lb6, lb7, lb8, lb9, lb10, lb11, lb12, allF, listF, tupleF, intF, eq_self_iff_true, if_true, if_false, decide_true, decide_false, Bool.true_and, Bool.false_and, Bool.and_true, Bool.and_false, Bool.not_true, Bool.not_false, Nat.sub_self, Nat.reduceAdd, Nat.reduceSub, Nat.reduceEqDiff, neD_b, eqD_b, beq_self_eq_true, (Pl.str (n := n) h l).eqD hn]
  | n + 1, _, .lst (ds := ds) h l, k + 1, st, hk, hn => by
    have lc := lc_same (k := k) ds (.lst ds) (.lst ds) st (fun x hx => same_refl (h x hx) k st (by omega) (by omega)) l
    refine run_ret rfl ?_
    unfold d_l_same
    simp only [gd, runD, callP, kwF, pick, rtP, sqP, asP, parP, nxP, ifP, andV, orV, notV, andT, orT, notT, truP, tstP, truD, isiP, isisP, isTys, isNP, notNP, isNon, varP, chP, cstP, bltP, binP, consP, nilP, lstP, tupP, lcP, itP, rng1P, rng2P, slP, noP, soP, intOf, negP, sosP, bd_ok, List.map, List.replicate, List.length_cons, List.length_nil, List.cons_append, List.nil_append, List.append_nil, List.getElem?_cons_zero, List.getElem?_cons_succ, List.filterMap, List.set, omap_some, obind_some, isTy, blOf, if_t, if_f, lenF, leD_i, leD_s, ltD_i, ltD_s, gtD_i, geD_i, addD_i, subD_i, mulD_i, itemsD, wipeD, Tgt.put, setAll, outR, lb0, lb1, lb2, lb3, lb4, lb5, lb6, lb7, lb8, lb9, lb10, lb11, lb12, allF, listF, tupleF, intF, eq_self_iff_true, if_true, if_false, decide_true, decide_false, Bool.true_and, Bool.false_and, Bool.and_true, Bool.and_false, Bool.not_true, Bool.not_false, Nat.sub_self, Nat.reduceAdd, Nat.reduceSub, Nat.reduceEqDiff, neD_b, eqD_b, eqD_i, beq_self_eq_true, zipP, zipF, lc, blsT, all_rep]
  | n + 1, _, .tup (ds := ds) h l, k + 1, st, hk, hn => by
    have lc := lc_same (k := k) ds (.tup ds) (.tup ds) st (fun x hx => same_refl (h x hx) k st (by omega) (by omega)) l
    refine run_ret rfl ?_
    unfold d_l_same
    simp only [gd, runD, callP, kwF, pick, rtP, sqP, asP, parP, nxP, ifP, andV, orV, notV, andT, orT, notT, truP, tstP, truD, isiP, isisP, isTys, isNP, notNP, isNon, varP, chP, cstP, bltP, binP, consP, nilP, lstP, tupP, lcP, itP, rng1P, rng2P, slP, noP, soP, intOf, negP, sosP, bd_ok, List.map, List.replicate, List.length_cons, List.length_nil, List.cons_append, List.nil_append, List.append_nil, List.getElem?_cons_zero, List.getElem?_cons_succ, List.filterMap, List.set, omap_some, obind_some, isTy, blOf, if_t, if_f, lenF, leD_i, leD_s, ltD_i, ltD_s, gtD_i, geD_i, addD_i, subD_i, mulD_i, itemsD, wipeD, Tgt.put, setAll, outR, lb0, lb1, lb2, lb3, lb4, lb5, lb6, lb7, lb8, lb9, lb10, lb11, lb12, allF, listF, tupleF, intF, eq_self_iff_true, if_true, if_false, decide_true, decide_false, Bool.true_and, Bool.false_and, Bool.and_true, Bool.and_false, Bool.not_true, Bool.not_false, Nat.sub_self, Nat.reduceAdd, Nat.reduceSub, Nat.reduceEqDiff, neD_b, eqD_b, eqD_i, beq_self_eq_true, zipP, zipF, lc, blsT, all_rep]
theorem pl_name {n : Nat} {z : Str} (h : NameS z) : Pl n (.str z) := by
  refine .str ?_ h.big
  obtain ⟨_, _, h3⟩ := h
  rw [Array.all_eq_true_iff_forall_mem]
  intro c hc
  have := List.all_eq_true.mp h3 c (by simpa using hc)
  unfold lowC at this
  rw [Bool.and_eq_true, decide_eq_true_eq, decide_eq_true_eq] at this
  simp
  omega
theorem pl_names {n : Nat} {zs : List Str} (h : ∀ z ∈ zs, NameS z) (hl : zs.length ≤ 1000) : Pl (n + 1) (.lst (zs.map .str)) ∧ Pl (n + 1) (.tup (zs.map .str)) := by
  have a : ∀ x ∈ zs.map D.str, Pl n x := fun x hx => by
    obtain ⟨z, hz, rfl⟩ := List.mem_map.mp hx
    exact pl_name (h z hz)
  have b : (zs.map D.str).length ≤ big := by rw [List.length_map]; unfold big; omega
  exact ⟨.lst a b, .tup a b⟩
theorem rng1_at {tr : ADen} {Δ : Dl} {st st1 : Sta} {ds xs : List D} (h : tr Δ st = some (.ok ds, st1)) (h2 : rng1F ds = some xs) : rng1P tr Δ st = some (.ok xs, st1) := by
  unfold rng1P
  rw [h, bd_ok, h2, omap_some]
theorem srt_srt (zs : List Str) : srtS zs = srtS (srtS zs) := srtS_one (List.Perm.refl _) (srtS_ord zs)
theorem srt_mem {zs : List Str} {z : Str} : z ∈ srtS zs ↔ z ∈ zs := (srtS_perm zs).mem_iff
theorem srt_nd {zs : List Str} (h : zs.Nodup) : (srtS zs).Nodup := (srtS_perm zs).nodup_iff.mpr h
theorem lc_drawF {scr : Option (Addr × List Int)} {own : List (Nat × Cell)} {nx : Nat} {L : D} : ∀ (zs : List Str) (b : BagSt) (acc : List D), okB b → acc.length + zs.length ≤ big →
    ∃ (g : List Str) (b' : BagSt), lcGo (.one 2) (tstP (binP eqD (callP F_l_pull (consP (varP 0) (consP (cstP (.int 2)) nilP))) (cstP (.int 0)))) (varP 2) [some (.hnd 0), some L, none] (zs.map .str) ⟨some b, scr, own, nx⟩ acc = some (.ok (.lst (acc ++ g.map .str)), ⟨some b', scr, own, nx⟩) ∧ g.Sublist zs ∧ okB b'
  | [], b, acc, hb, _ => ⟨[], b, by simp [lcGo], .slnil, hb⟩
  | z :: zs, b, acc, hb, hl => by
    obtain ⟨r, b1, p1, r0, r1, hb1⟩ := pull_ok b scr own nx 2 hb (by decide) (by decide)
    rw [List.length_cons] at hl
    have tt : tstP (binP eqD (callP F_l_pull (consP (varP 0) (consP (cstP (.int 2)) nilP))) (cstP (.int 0))) [some (.hnd 0), some L, some (.str z)] ⟨some b, scr, own, nx⟩ = some (.ok (r == 0), ⟨some b1, scr, own, nx⟩) := by
      simp only [gd, runD, callP, kwF, pick, rtP, sqP, asP, parP, nxP, ifP, andV, orV, notV, andT, orT, notT, truP, tstP, truD, isiP, isisP, isTys, isNP, notNP, isNon, varP, chP, cstP, bltP, binP, consP, nilP, lstP, tupP, lcP, itP, rng1P, rng2P, slP, noP, soP, intOf, negP, sosP, bd_ok, List.map, List.replicate, List.length_cons, List.length_nil, List.cons_append, List.nil_append, List.append_nil, List.getElem?_cons_zero, List.getElem?_cons_succ, List.filterMap, List.set, omap_some, obind_some, isTy, blOf, if_t, if_f, lenF, leD_i, leD_s, ltD_i, ltD_s, gtD_i, geD_i, addD_i, subD_i, mulD_i, itemsD, wipeD, Tgt.put, setAll, outR, lb0, lb1, lb2, lb3, lb4, lb5, lb6, lb7, lb8, lb9, lb10, lb11, lb12, allF, listF, tupleF, intF, eq_self_iff_true, if_true, if_false, decide_true, decide_false, Bool.true_and, Bool.false_and, Bool.and_true, Bool.and_false, Bool.not_true, Bool.not_false, Nat.sub_self, Nat.reduceAdd, Nat.reduceSub, Nat.reduceEqDiff, p1, eqD_i]
    rw [List.map_cons]
    unfold lcGo
    rw [show (Tgt.one 2).put (.str z) [some (.hnd 0), some L, none] = some [some (.hnd 0), some L, some (.str z)] from rfl, obind_some, tt]
    cases hp : r == 0 with
    | false =>
      obtain ⟨g, b2, e2, sl, hb2⟩ := lc_drawF zs b1 acc hb1 (by omega)
      exact ⟨g, b2, e2, sl.cons z, hb2⟩
    | true =>
      obtain ⟨g, b2, e2, sl, hb2⟩ := lc_drawF zs b1 (acc ++ [.str z]) hb1 (by rw [List.length_append, List.length_singleton]; omega)
      refine ⟨z :: g, b2, ?_, sl.cons_cons z, hb2⟩
      simp only
      rw [show varP 2 [some (.hnd 0), some L, some (.str z)] ⟨some b1, scr, own, nx⟩ = some (.ok (.str z), ⟨some b1, scr, own, nx⟩) from rfl]
      simp only
      rw [if_pos (by omega), e2, List.append_assoc]
      rfl
theorem cut_sub (g : List Str) (lo hi : Option Int) : ∃ g' : List Str, cutL (g.map .str) lo hi = g'.map .str ∧ g'.Sublist g := by
  refine ⟨(g.drop (HT.sIx (g.map D.str).length 0 lo)).take (HT.sIx (g.map D.str).length (g.map D.str).length hi - HT.sIx (g.map D.str).length 0 lo), ?_, (List.take_sublist _ _).trans (List.drop_sublist _ _)⟩
  unfold cutL
  rw [List.map_take, List.map_drop]
section
variable {scr : Option (Addr × List Int)} {own : List (Nat × Cell)} {nx : Nat} {ws : List Str}
theorem group_ok (b : BagSt) (hb : okB b) (so : ws = srtS ws) (hl : ws.length ≤ 12) : ∃ (g : List Str) (b' : BagSt), F_l_group [.hnd 0, .lst (ws.map .str)] ⟨some b, scr, own, nx⟩ = some (.ok (.tup (g.map .str)), ⟨some b', scr, own, nx⟩) ∧ g.Sublist ws ∧ okB b' := by
  have st := sort_okW ws (by omega)
  rw [← so] at st
  obtain ⟨g, b1, e1, sl, hb1⟩ := lc_drawF (scr := scr) (own := own) (nx := nx) (L := .lst (ws.map .str)) ws b [] hb (by rw [List.length_nil]; unfold big; omega)
  obtain ⟨g', e2, sl2⟩ := cut_sub g none (some 3)
  refine ⟨g', b1, run_ret rfl ?_, sl2.trans sl, hb1⟩
  have tf : tupleF [.lst (g'.map .str)] = some (.tup (g'.map .str)) := rfl
  rw [List.nil_append] at e1
  unfold d_l_group
  simp only [gd, runD, callP, kwF, pick, rtP, sqP, asP, parP, nxP, ifP, andV, orV, notV, andT, orT, notT, truP, tstP, truD, isiP, isisP, isTys, isNP, notNP, isNon, varP, chP, cstP, bltP, binP, consP, nilP, lstP, tupP, lcP, itP, rng1P, rng2P, slP, noP, soP, intOf, negP, sosP, bd_ok, List.map, List.replicate, List.length_cons, List.length_nil, List.cons_append, List.nil_append, List.append_nil, List.getElem?_cons_zero, List.getElem?_cons_succ, List.filterMap, List.set, omap_some, obind_some, isTy, blOf, if_t, if_f, lenF, leD_i, leD_s, ltD_i, ltD_s, gtD_i, geD_i, addD_i, subD_i, mulD_i, itemsD, wipeD, Tgt.put, setAll, outR, lb0, lb1, lb2, lb3, lb4, lb5, lb6, lb7, lb8, lb9, lb10, lb11, lb12, allF, listF, tupleF, intF, eq_self_iff_true, if_true, if_false, decide_true, decide_false, Bool.true_and, Bool.false_and, Bool.and_true, Bool.and_false, Bool.not_true, Bool.not_false, Nat.sub_self, Nat.reduceAdd, Nat.reduceSub, Nat.reduceEqDiff, st, e1, slD, e2, tf]
theorem ne_nil (nm : ∀ z ∈ ws, NameS z) (hl : ws.length ≤ 12) : neD (.lst (ws.map .str)) (.lst []) = some (.bl (!ws.isEmpty)) := by
  cases ws with
  | nil => exact (Pl.lst (n := 0) (ds := []) (fun _ h => absurd h List.not_mem_nil) (Nat.zero_le _)).neD (by decide)
  | cons z zs =>
    have pl : ∀ x ∈ (zs.map D.str), ∃ p, toPy x = some p ∧ PyData.canLay0 p = true ∧ PyData.depth p ≤ 0 := fun x hx => by
      obtain ⟨y, hy, rfl⟩ := List.mem_map.mp hx
      exact (pl_name (n := 0) (nm y (List.mem_cons_of_mem _ hy))).py
    obtain ⟨p, h1, h2, h3⟩ := (pl_name (n := 0) (nm z List.mem_cons_self)).py
    obtain rfl : PyData.str z = p := Option.some.inj h1
    obtain ⟨ps, g1, g2, g3⟩ := pys_all pl
    have sh : shP (.lst ((z :: zs).map .str)) = some (.list (PyData.str z :: ps)) := by
      unfold shP
      rw [show toPy (.lst ((z :: zs).map .str)) = some (.list (PyData.str z :: ps)) by simp only [List.map_cons, toPy, toPys, toPy, g1, Option.bind, Option.map], obind_some]
      refine if_pos ?_
      unfold SeqAt.shaped
      have c : (PyData.list (PyData.str z :: ps)).canLay0 = true := by
        show PyData.canLayAll0 (PyData.str z :: ps) = true
        unfold PyData.canLayAll0
        rw [h2, g2]; rfl
      have d : (PyData.list (PyData.str z :: ps)).depth ≤ 64 := by
        unfold PyData.depth PyData.depthAll
        omega
      rw [c, decide_eq_true d]; rfl
    have sn : shP (.lst []) = some (.list []) := rfl
    unfold Dn.neD eqB
    rw [sh, sn]
    rfl
end
theorem cps_ok {x : Str} (h : NameS x) : x.cps.all (· < 0x110000) = true := by
  obtain ⟨_, _, h3⟩ := h
  rw [Array.all_eq_true_iff_forall_mem]
  intro c hc
  have := List.all_eq_true.mp h3 c (by simpa using hc)
  unfold lowC at this
  rw [Bool.and_eq_true, decide_eq_true_eq, decide_eq_true_eq] at this
  simp
  omega
theorem eqB_name {x y : Str} (hx : NameS x) (hy : NameS y) : eqB (.str x) (.str y) = some (decide (x = y)) := by
  have sh : ∀ z : Str, NameS z → shP (.str z) = some (.str z) := fun z hz => by
    show (if SeqAt.shaped (PyData.str z) = true then some (PyData.str z) else none) = _
    refine if_pos ?_
    unfold SeqAt.shaped
    rw [show PyData.canLay0 (PyData.str z) = true from cps_ok hz]
    rfl
  have e : PyData.eqv (.str x) (.str y) = decide (x = y) := by
    simp only [PyData.eqv]
    rw [Bool.eq_iff_iff, beq_iff_eq, decide_eq_true_eq]
  unfold eqB
  rw [sh x hx, sh y hy, obind_some, omap_some, e]
theorem eqD_name {x y : Str} (hx : NameS x) (hy : NameS y) : eqD (.str x) (.str y) = some (.bl (decide (x = y))) := by
  unfold Dn.eqD
  rw [eqB_name hx hy, omap_some]
theorem neD_name {x y : Str} (hx : NameS x) (hy : NameS y) : neD (.str x) (.str y) = some (.bl (decide (x ≠ y))) := by
  unfold Dn.neD
  rw [eqB_name hx hy, omap_some]
  congr 2
  by_cases h : x = y <;> simp [h]
theorem neD_i (i j : Int) : neD (.int i) (.int j) = some (.bl (!(i == j))) := rfl
theorem cons_at {te : EDen} {tr : ADen} {Δ : Dl} {st st1 st2 : Sta} {d : D} {ds : List D} (h1 : te Δ st = some (.ok d, st1)) (h2 : tr Δ st1 = some (.ok ds, st2)) : consP te tr Δ st = some (.ok (d :: ds), st2) := by
  unfold consP
  rw [h1, bd_ok, h2, bd_ok]
theorem call_at {F : FDen} {tr : ADen} {Δ : Dl} {st st1 : Sta} {ds : List D} (h : tr Δ st = some (.ok ds, st1)) : callP F tr Δ st = F ds st1 := by
  unfold callP
  rw [h, bd_ok]
theorem tru_at {te : EDen} {Δ : Dl} {st st1 : Sta} {b : Bool} (h : te Δ st = some (.ok (.bl b), st1)) : truP te Δ st = some (.ok b, st1) := by
  unfold truP
  rw [h, bd_ok]
  rfl
theorem not_at {tt : TDen} {Δ : Dl} {st st1 : Sta} {b : Bool} (h : tt Δ st = some (.ok b, st1)) : notT tt Δ st = some (.ok (!b), st1) := by
  unfold notT
  rw [h, bd_ok]
theorem bin_at {f : D → D → Option D} {ta tb : EDen} {Δ : Dl} {st st1 st2 : Sta} {x y d : D} (ha : ta Δ st = some (.ok x, st1)) (hb : tb Δ st1 = some (.ok y, st2)) (hf : f x y = some d) : binP f ta tb Δ st = some (.ok d, st2) := by
  unfold binP
  rw [ha, bd_ok, hb, bd_ok, hf]
  rfl
theorem blt_at {F : List D → Option D} {tr : ADen} {Δ : Dl} {st st1 : Sta} {ds : List D} {d : D} (h : tr Δ st = some (.ok ds, st1)) (hF : F ds = some d) : bltP F tr Δ st = some (.ok d, st1) := by
  unfold bltP
  rw [h, bd_ok, hF]
  rfl
theorem as_at {g : Tgt} {te : EDen} {Δ Δ1 : Dl} {st st1 : Sta} {d : D} (h : te Δ st = some (.ok d, st1)) (hp : g.put d Δ = some Δ1) : asP g te Δ st = some (.ok (.nx Δ1), st1) := by
  unfold asP
  rw [h, bd_ok, hp]
  rfl
theorem rt_at {te : EDen} {Δ : Dl} {st st1 : Sta} {d : D} (h : te Δ st = some (.ok d, st1)) : rtP te Δ st = some (.ok (.rt d), st1) := by
  unfold rtP
  rw [h, bd_ok]
theorem sort2_ok (zs : List Str) (h : zs.length < 64) : sort2F [.lst (zs.map .str)] = some (.lst ((srtS zs).map .str)) := by
  show (strsD (zs.map .str)).bind _ = _
  rw [strsD_map, obind_some, if_pos h]
theorem mixed_ok (b : BagSt) (scr : Option (Addr × List Int)) (own : List (Nat × Cell)) (nx : Nat) (zs : List Str) (hb : okB b) (hz : zs.length ≤ 1000) :
    ∃ (ys : List Str) (b' : BagSt) (own' : List (Nat × Cell)) (nx' : Nat), F_l_mixed [.hnd 0, .lst (zs.map .str)] ⟨some b, scr, own, nx⟩ = some (.ok (.lst (ys.map .str)), ⟨some b', scr, own', nx'⟩) ∧ ys.Perm zs ∧ okB b' := by
  let st : Sta := ⟨some b, scr, own, nx⟩
  let nn := nx + 1
  let st1 : Sta := st.neu (.lst [])
  have lk1 : st1.look nn = some (.lst []) := look_neu st _
  obtain ⟨Δ', s', q, x3, b', ys, eΔ, hsc, hbg, hlk, hpm, hb'⟩ := fo_inv (g := .one 3) (tb := exP (insP (varP 2) (consP (callP F_l_pull (consP (varP 0) (consP (binP addD (lenLP (varP 2)) (cstP (.int 1))) nilP))) (consP (varP 3) nilP))))
    (fun k Δ s' => ∃ (x3 : Option D) (b' : BagSt) (ys : List Str), Δ = [some (.hnd 0), some (.lst (zs.map .str)), some (.hnd nn), x3] ∧ s'.scr = scr ∧ s'.bag = some b' ∧ s'.look nn = some (.lst (ys.map .str)) ∧ ys.Perm (zs.take k) ∧ okB b')
    (zs.map .str) 0 [some (.hnd 0), some (.lst (zs.map .str)), some (.hnd nn), none] st1 ⟨none, b, [], rfl, rfl, rfl, lk1, by simp, hb⟩ (fun i d hd Δ s' ⟨x3, b', ys, eΔ, hsc, hbg, hlk, hpm, hb'⟩ => by
      subst eΔ
      rw [List.getElem?_map] at hd
      obtain ⟨z, hzi, rfl⟩ := Option.map_eq_some_iff.mp hd
      obtain ⟨hi, _⟩ := List.getElem?_eq_some_iff.mp hzi
      rw [Nat.zero_add] at hpm ⊢
      obtain ⟨bag0, scr0, own0, nx0⟩ := s'
      simp only at hsc hbg
      subst hsc
      subst hbg
      have ly : ys.length ≤ 1000 := by rw [hpm.length_eq, List.length_take]; omega
      obtain ⟨r, b2, p, r0, r1, hb2⟩ := pull_ok b' scr0 own0 nx0 ((ys.map D.str).length + 1) hb' (by omega) (by rw [List.length_map]; omega)
      rw [List.length_map] at r1 p
      have lo : lstOf ⟨some b', scr0, own0, nx0⟩ (.hnd nn) = some (ys.map .str) := by
        show (match Sta.look ⟨some b', scr0, own0, nx0⟩ nn with | some (.lst ds) => some ds | _ => none) = _
        rw [hlk]
      have lk2 : Sta.look ⟨some b2, scr0, own0, nx0⟩ nn = some (.lst (ys.map .str)) := hlk
      let Δ3 : Dl := [some (.hnd 0), some (.lst (zs.map .str)), some (.hnd nn), some (.str z)]
      have tr : consP (callP F_l_pull (consP (varP 0) (consP (binP addD (lenLP (varP 2)) (cstP (.int 1))) nilP))) (consP (varP 3) nilP) Δ3 ⟨some b', scr0, own0, nx0⟩ = some (.ok [.int r, .str z], ⟨some b2, scr0, own0, nx0⟩) := by
        simp only [gd, runD, callP, kwF, pick, rtP, sqP, asP, parP, nxP, ifP, andV, orV, notV, andT, orT, notT, truP, tstP, truD, isiP, isisP, isTys, isNP, notNP, isNon, varP, chP, cstP, bltP, binP, consP, nilP, lstP, tupP, lcP, itP, rng1P, rng2P, slP, noP, soP, intOf, negP, sosP, bd_ok, List.map, List.replicate, List.length_cons, List.length_nil, List.cons_append, List.nil_append, List.append_nil, List.getElem?_cons_zero, List.getElem?_cons_succ, List.filterMap, List.set, omap_some, obind_some, isTy, blOf, if_t, if_f, lenF, leD_i, leD_s, ltD_i, ltD_s, gtD_i, geD_i, addD_i, subD_i, mulD_i, itemsD, wipeD, Tgt.put, setAll, outR, lb0, lb1, lb2, lb3, lb4, lb5, lb6, lb7, lb8, lb9, lb10, lb11, lb12, allF, listF, tupleF, intF, eq_self_iff_true, if_true, if_false, decide_true, decide_false, Bool.true_and, Bool.false_and, Bool.and_true, Bool.and_false, Bool.not_true, Bool.not_false, Nat.sub_self, Nat.reduceAdd, Nat.reduceSub, Nat.reduceEqDiff, Δ3, lenLP, lo, List.length_map, p]
      have ins : insP (varP 2) (consP (callP F_l_pull (consP (varP 0) (consP (binP addD (lenLP (varP 2)) (cstP (.int 1))) nilP))) (consP (varP 3) nilP)) Δ3 ⟨some b', scr0, own0, nx0⟩ = some (.ok .non, Sta.put ⟨some b2, scr0, own0, nx0⟩ nn (.lst ((ys.map .str).take r.toNat ++ [.str z] ++ (ys.map .str).drop r.toNat))) := by
        unfold insP
        rw [show varP 2 Δ3 ⟨some b', scr0, own0, nx0⟩ = some (.ok (.hnd nn), ⟨some b', scr0, own0, nx0⟩) from rfl, bd_ok]
        simp only
        rw [hlk]
        simp only
        rw [tr, bd_ok]
        simp only
        rw [lk2]
        simp only
        rw [if_pos ⟨by rw [List.length_map]; unfold big; omega, r0, by omega⟩]
      refine ⟨_, _, _, rfl, by unfold exP; rw [show (([some (.hnd 0), some (.lst (zs.map .str)), some (.hnd nn), x3] : Dl).set 3 (some (.str z))) = Δ3 from rfl, ins, bd_ok], some (.str z), b2, ys.take r.toNat ++ [z] ++ ys.drop r.toNat, rfl, rfl, rfl, (look_put _ _ _).trans ?_, ?_, hb2⟩
      · rw [List.map_append, List.map_append, List.map_take, List.map_drop]; rfl
      · have tk : zs.take (i + 1) = zs.take i ++ [z] := by rw [List.take_add_one, hzi]; rfl
        rw [tk]
        have p1 : (ys.take r.toNat ++ [z] ++ ys.drop r.toNat).Perm (ys ++ [z]) := by
          rw [List.append_assoc, List.singleton_append]
          refine (List.perm_middle.trans ?_)
          rw [List.take_append_drop]
          exact (List.perm_append_singleton z ys).symm
        exact p1.trans (hpm.append_right [z]))
  subst eΔ
  obtain ⟨bag0, scr0, own0, nx0⟩ := s'
  simp only at hsc hbg
  subst hsc
  subst hbg
  rw [List.length_map, Nat.zero_add, List.take_length] at hpm
  have run : G_l_mixed [.hnd 0, .lst (zs.map .str)] st = some (.ok (.hnd nn), ⟨some b', scr0, own0, nx0⟩) := by
    refine run_ret rfl ?_
    unfold d_l_mixed
    refine sq_step (st1 := st1) (Δ1 := [some (.hnd 0), some (.lst (zs.map .str)), some (.hnd nn), none]) (by simp only [gd, runD, callP, kwF, pick, rtP, sqP, asP, parP, nxP, ifP, andV, orV, notV, andT, orT, notT, truP, tstP, truD, isiP, isisP, isTys, isNP, notNP, isNon, varP, chP, cstP, bltP, binP, consP, nilP, lstP, tupP, lcP, itP, rng1P, rng2P, slP, noP, soP, intOf, negP, sosP, bd_ok, List.map, List.replicate, List.length_cons, List.length_nil, List.cons_append, List.nil_append, List.append_nil, List.getElem?_cons_zero, List.getElem?_cons_succ, List.filterMap, List.set, omap_some, obind_some, isTy, blOf, if_t, if_f, lenF, leD_i, leD_s, ltD_i, ltD_s, gtD_i, geD_i, addD_i, subD_i, mulD_i, itemsD, wipeD, Tgt.put, setAll, outR, lb0, lb1, lb2, lb3, lb4, lb5, lb6, lb7, lb8, lb9, lb10, lb11, lb12, allF, listF, tupleF, intF, eq_self_iff_true, if_true, if_false, decide_true, decide_false, Bool.true_and, Bool.false_and, Bool.and_true, Bool.and_false, Bool.not_true, Bool.not_false, Nat.sub_self, Nat.reduceAdd, Nat.reduceSub, Nat.reduceEqDiff, newP]; rfl) ?_
    refine sq_step (by unfold foP; simp only [gd, runD, callP, kwF, pick, rtP, sqP, asP, parP, nxP, ifP, andV, orV, notV, andT, orT, notT, truP, tstP, truD, isiP, isisP, isTys, isNP, notNP, isNon, varP, chP, cstP, bltP, binP, consP, nilP, lstP, tupP, lcP, itP, rng1P, rng2P, slP, noP, soP, intOf, negP, sosP, bd_ok, List.map, List.replicate, List.length_cons, List.length_nil, List.cons_append, List.nil_append, List.append_nil, List.getElem?_cons_zero, List.getElem?_cons_succ, List.filterMap, List.set, omap_some, obind_some, isTy, blOf, if_t, if_f, lenF, leD_i, leD_s, ltD_i, ltD_s, gtD_i, geD_i, addD_i, subD_i, mulD_i, itemsD, wipeD, Tgt.put, setAll, outR, lb0, lb1, lb2, lb3, lb4, lb5, lb6, lb7, lb8, lb9, lb10, lb11, lb12, allF, listF, tupleF, intF, eq_self_iff_true, if_true, if_false, decide_true, decide_false, Bool.true_and, Bool.false_and, Bool.and_true, Bool.and_false, Bool.not_true, Bool.not_false, Nat.sub_self, Nat.reduceAdd, Nat.reduceSub, Nat.reduceEqDiff]; exact q) ?_
    simp only [gd, runD, callP, kwF, pick, rtP, sqP, asP, parP, nxP, ifP, andV, orV, notV, andT, orT, notT, truP, tstP, truD, isiP, isisP, isTys, isNP, notNP, isNon, varP, chP, cstP, bltP, binP, consP, nilP, lstP, tupP, lcP, itP, rng1P, rng2P, slP, noP, soP, intOf, negP, sosP, bd_ok, List.map, List.replicate, List.length_cons, List.length_nil, List.cons_append, List.nil_append, List.append_nil, List.getElem?_cons_zero, List.getElem?_cons_succ, List.filterMap, List.set, omap_some, obind_some, isTy, blOf, if_t, if_f, lenF, leD_i, leD_s, ltD_i, ltD_s, gtD_i, geD_i, addD_i, subD_i, mulD_i, itemsD, wipeD, Tgt.put, setAll, outR, lb0, lb1, lb2, lb3, lb4, lb5, lb6, lb7, lb8, lb9, lb10, lb11, lb12, allF, listF, tupleF, intF, eq_self_iff_true, if_true, if_false, decide_true, decide_false, Bool.true_and, Bool.false_and, Bool.and_true, Bool.and_false, Bool.not_true, Bool.not_false, Nat.sub_self, Nat.reduceAdd, Nat.reduceSub, Nat.reduceEqDiff]
  refine ⟨ys, b', (Sta.drop ⟨some b', scr0, own0, nx0⟩ nn).own, nx0, ?_, hpm, hb'⟩
  show (G_l_mixed [.hnd 0, .lst (zs.map .str)] st).bind (frz st) = _
  rw [run, obind_some]
  unfold frz
  simp only
  rw [if_pos (show st.next < nn from Nat.lt_succ_self _), hlk]
  rfl
theorem or_ff {ta tb : TDen} {Δ : Dl} {st st1 st2 : Sta} (h1 : ta Δ st = some (.ok false, st1)) (h2 : tb Δ st1 = some (.ok false, st2)) : orT ta tb Δ st = some (.ok false, st2) := by
  unfold orT
  rw [h1, bd_ok]
  exact h2
theorem tst_at {te : EDen} {Δ : Dl} {st st1 : Sta} {b : Bool} (h : te Δ st = some (.ok (.bl b), st1)) : tstP te Δ st = some (.ok b, st1) := by
  unfold tstP
  rw [h, bd_ok]
  rfl
theorem call1 {F : FDen} {ta : EDen} {Δ : Dl} {st st1 st2 : Sta} {x r : D} (h1 : ta Δ st = some (.ok x, st1)) (h : F [x] st1 = some (.ok r, st2)) : callP F (consP ta nilP) Δ st = some (.ok r, st2) := (call_at (cons_at h1 rfl)).trans h
theorem call2 {F : FDen} {ta tb : EDen} {Δ : Dl} {st st1 st2 st3 : Sta} {x y r : D} (h1 : ta Δ st = some (.ok x, st1)) (h2 : tb Δ st1 = some (.ok y, st2)) (h : F [x, y] st2 = some (.ok r, st3)) : callP F (consP ta (consP tb nilP)) Δ st = some (.ok r, st3) := (call_at (cons_at h1 (cons_at h2 rfl))).trans h
theorem call3 {F : FDen} {ta tb tc : EDen} {Δ : Dl} {st st1 st2 st3 st4 : Sta} {x y z r : D} (h1 : ta Δ st = some (.ok x, st1)) (h2 : tb Δ st1 = some (.ok y, st2)) (h3 : tc Δ st2 = some (.ok z, st3)) (h : F [x, y, z] st3 = some (.ok r, st4)) : callP F (consP ta (consP tb (consP tc nilP))) Δ st = some (.ok r, st4) := (call_at (cons_at h1 (cons_at h2 (cons_at h3 rfl)))).trans h
theorem not_in_lst (x : Str) (zs : List Str) : notInD (.str x) (.lst (zs.map .str)) = some (.bl (!decide (x ∈ zs))) := by
  have h := in_lst x zs
  unfold inD at h
  unfold notInD
  cases q : inB (.str x) (.lst (zs.map .str)) with
  | none => rw [q] at h; cases h
  | some b =>
    rw [q] at h
    simp only [Option.map_some, Option.some.injEq, D.bl.injEq] at h
    rw [omap_some, h]
theorem and_f1 {ta tb : TDen} {Δ : Dl} {st st1 : Sta} (h1 : ta Δ st = some (.ok false, st1)) : andT ta tb Δ st = some (.ok false, st1) := by
  unfold andT
  rw [h1, bd_ok]
  rfl
theorem and_t {ta tb : TDen} {Δ : Dl} {st st1 : Sta} {r : Mo Bool} (h1 : ta Δ st = some (.ok true, st1)) (h2 : tb Δ st1 = r) : andT ta tb Δ st = r := by
  unfold andT
  rw [h1, bd_ok]
  exact h2
theorem is_word_str (z : Str) (m : Int) (st : Sta) (hz : z.length ≤ big) : F_is_word [.str z, .int m] st = some (.ok (.bl (decide (1 ≤ (z.length : Int)) && (decide ((z.length : Int) ≤ m) && lowS z))), st) := by
  have hl := lc_pure (t := .one 2) (te := chP leD leD (cstP (.str "a")) (varP 2) (cstP (.str "z"))) (Δ := [some (.str z), some (.int m), none]) (st := st) lowD (z.cps.toList.map fun c => .str ⟨#[c]⟩) [] (fun d hd => by
    obtain ⟨c, _, rfl⟩ := List.mem_map.mp hd
    refine ⟨_, rfl, ?_⟩
    simp only [gd, runD, callP, kwF, pick, rtP, sqP, asP, parP, nxP, ifP, andV, orV, notV, andT, orT, notT, truP, tstP, truD, isiP, isisP, isTys, isNP, notNP, isNon, varP, chP, cstP, bltP, binP, consP, nilP, lstP, tupP, lcP, itP, rng1P, rng2P, slP, noP, soP, intOf, negP, sosP, bd_ok, List.map, List.replicate, List.length_cons, List.length_nil, List.cons_append, List.nil_append, List.append_nil, List.getElem?_cons_zero, List.getElem?_cons_succ, List.filterMap, List.set, omap_some, obind_some, isTy, blOf, if_t, if_f, lenF, leD_i, leD_s, ltD_i, ltD_s, gtD_i, geD_i, addD_i, subD_i, mulD_i, itemsD, wipeD, Tgt.put, setAll, outR, lb0, lb1, lb2, lb3, lb4, lb5, lb6, lb7, lb8, lb9, lb10, lb11, lb12, allF, listF, tupleF, intF, eq_self_iff_true, if_true, if_false, decide_true, decide_false, Bool.true_and, Bool.false_and, Bool.and_true, Bool.and_false, Bool.not_true, Bool.not_false, Nat.sub_self, Nat.reduceAdd, Nat.reduceSub, Nat.reduceEqDiff, s_a, s_z, sLt_a, sLt_z]
    show (if decide (97 ≤ c) = true then some (Except.ok (D.bl (decide (c ≤ 122))), st) else some (Except.ok (D.bl false), st)) = some (.ok (.bl (lowC c)), st)
    unfold lowC
    cases decide (97 ≤ c) <;> rfl) (by rw [List.length_map, List.length_nil, Nat.zero_add]; exact hz)
  rw [List.nil_append, List.map_map, show (lowD ∘ fun c => D.str ⟨#[c]⟩) = (D.bl ∘ lowC) from rfl, ← List.map_map] at hl
  unfold F_is_word d_is_word
  simp only [gd, runD, callP, kwF, pick, rtP, sqP, asP, parP, nxP, ifP, andV, orV, notV, andT, orT, notT, truP, tstP, truD, isiP, isisP, isTys, isNP, notNP, isNon, varP, chP, cstP, bltP, binP, consP, nilP, lstP, tupP, lcP, itP, rng1P, rng2P, slP, noP, soP, intOf, negP, sosP, bd_ok, List.map, List.replicate, List.length_cons, List.length_nil, List.cons_append, List.nil_append, List.append_nil, List.getElem?_cons_zero, List.getElem?_cons_succ, List.filterMap, List.set, omap_some, obind_some, isTy, blOf, if_t, if_f, lenF, leD_i, leD_s, ltD_i, ltD_s, gtD_i, geD_i, addD_i, subD_i, mulD_i, itemsD, wipeD, Tgt.put, setAll, outR, lb0, lb1, lb2, lb3, lb4, lb5, lb6, lb7, lb8, lb9, lb10, lb11, lb12, allF, listF, tupleF, intF, eq_self_iff_true, if_true, if_false, decide_true, decide_false, Bool.true_and, Bool.false_and, Bool.and_true, Bool.and_false, Bool.not_true, Bool.not_false, Nat.sub_self, Nat.reduceAdd, Nat.reduceSub, Nat.reduceEqDiff, if_pos hz, hl, bls_map]
  cases h1 : decide (1 ≤ (z.length : Int))
  · simp only [gd, runD, callP, kwF, pick, rtP, sqP, asP, parP, nxP, ifP, andV, orV, notV, andT, orT, notT, truP, tstP, truD, isiP, isisP, isTys, isNP, notNP, isNon, varP, chP, cstP, bltP, binP, consP, nilP, lstP, tupP, lcP, itP, rng1P, rng2P, slP, noP, soP, intOf, negP, sosP, bd_ok, List.map, List.replicate, List.length_cons, List.length_nil, List.cons_append, List.nil_append, List.append_nil, List.getElem?_cons_zero, List.getElem?_cons_succ, List.filterMap, List.set, omap_some, obind_some, isTy, blOf, if_t, if_f, lenF, leD_i, leD_s, ltD_i, ltD_s, gtD_i, geD_i, addD_i, subD_i, mulD_i, itemsD, wipeD, Tgt.put, setAll, outR, lb0, lb1, lb2, lb3, lb4, lb5, lb6, lb7, lb8, lb9, lb10, lb11, lb12, allF, listF, tupleF, intF, eq_self_iff_true, if_true, if_false, decide_true, decide_false, Bool.true_and, Bool.false_and, Bool.and_true, Bool.and_false, Bool.not_true, Bool.not_false, Nat.sub_self, Nat.reduceAdd, Nat.reduceSub, Nat.reduceEqDiff]
  · simp only [gd, runD, callP, kwF, pick, rtP, sqP, asP, parP, nxP, ifP, andV, orV, notV, andT, orT, notT, truP, tstP, truD, isiP, isisP, isTys, isNP, notNP, isNon, varP, chP, cstP, bltP, binP, consP, nilP, lstP, tupP, lcP, itP, rng1P, rng2P, slP, noP, soP, intOf, negP, sosP, bd_ok, List.map, List.replicate, List.length_cons, List.length_nil, List.cons_append, List.nil_append, List.append_nil, List.getElem?_cons_zero, List.getElem?_cons_succ, List.filterMap, List.set, omap_some, obind_some, isTy, blOf, if_t, if_f, lenF, leD_i, leD_s, ltD_i, ltD_s, gtD_i, geD_i, addD_i, subD_i, mulD_i, itemsD, wipeD, Tgt.put, setAll, outR, lb0, lb1, lb2, lb3, lb4, lb5, lb6, lb7, lb8, lb9, lb10, lb11, lb12, allF, listF, tupleF, intF, eq_self_iff_true, if_true, if_false, decide_true, decide_false, Bool.true_and, Bool.false_and, Bool.and_true, Bool.and_false, Bool.not_true, Bool.not_false, Nat.sub_self, Nat.reduceAdd, Nat.reduceSub, Nat.reduceEqDiff]
    cases h2 : decide ((z.length : Int) ≤ m)
    · simp only [gd, runD, callP, kwF, pick, rtP, sqP, asP, parP, nxP, ifP, andV, orV, notV, andT, orT, notT, truP, tstP, truD, isiP, isisP, isTys, isNP, notNP, isNon, varP, chP, cstP, bltP, binP, consP, nilP, lstP, tupP, lcP, itP, rng1P, rng2P, slP, noP, soP, intOf, negP, sosP, bd_ok, List.map, List.replicate, List.length_cons, List.length_nil, List.cons_append, List.nil_append, List.append_nil, List.getElem?_cons_zero, List.getElem?_cons_succ, List.filterMap, List.set, omap_some, obind_some, isTy, blOf, if_t, if_f, lenF, leD_i, leD_s, ltD_i, ltD_s, gtD_i, geD_i, addD_i, subD_i, mulD_i, itemsD, wipeD, Tgt.put, setAll, outR, lb0, lb1, lb2, lb3, lb4, lb5, lb6, lb7, lb8, lb9, lb10, lb11, lb12, allF, listF, tupleF, intF, eq_self_iff_true, if_true, if_false, decide_true, decide_false, Bool.true_and, Bool.false_and, Bool.and_true, Bool.and_false, Bool.not_true, Bool.not_false, Nat.sub_self, Nat.reduceAdd, Nat.reduceSub, Nat.reduceEqDiff]
    · simp only [gd, runD, callP, kwF, pick, rtP, sqP, asP, parP, nxP, ifP, andV, orV, notV, andT, orT, notT, truP, tstP, truD, isiP, isisP, isTys, isNP, notNP, isNon, varP, chP, cstP, bltP, binP, consP, nilP, lstP, tupP, lcP, itP, rng1P, rng2P, slP, noP, soP, intOf, negP, sosP, bd_ok, List.map, List.replicate, List.length_cons, List.length_nil, List.cons_append, List.nil_append, List.append_nil, List.getElem?_cons_zero, List.getElem?_cons_succ, List.filterMap, List.set, omap_some, obind_some, isTy, blOf, if_t, if_f, lenF, leD_i, leD_s, ltD_i, ltD_s, gtD_i, geD_i, addD_i, subD_i, mulD_i, itemsD, wipeD, Tgt.put, setAll, outR, lb0, lb1, lb2, lb3, lb4, lb5, lb6, lb7, lb8, lb9, lb10, lb11, lb12, allF, listF, tupleF, intF, eq_self_iff_true, if_true, if_false, decide_true, decide_false, Bool.true_and, Bool.false_and, Bool.and_true, Bool.and_false, Bool.not_true, Bool.not_false, Nat.sub_self, Nat.reduceAdd, Nat.reduceSub, Nat.reduceEqDiff, hl, bls_map]
      unfold lowS
      rw [List.all_map]
      rfl
def okN (k : Int) (z : Str) : Bool := decide (1 ≤ (z.length : Int)) && (decide ((z.length : Int) ≤ k) && lowS z)
theorem is_name_str (z : Str) (st : Sta) (hz : z.length ≤ big) : F_is_name [.str z] st = some (.ok (.bl (okN 4 z)), st) := by
  refine run_ret rfl ?_
  unfold d_is_name
  simp only [gd, runD, callP, kwF, pick, rtP, sqP, asP, parP, nxP, ifP, andV, orV, notV, andT, orT, notT, truP, tstP, truD, isiP, isisP, isTys, isNP, notNP, isNon, varP, chP, cstP, bltP, binP, consP, nilP, lstP, tupP, lcP, itP, rng1P, rng2P, slP, noP, soP, intOf, negP, sosP, bd_ok, List.map, List.replicate, List.length_cons, List.length_nil, List.cons_append, List.nil_append, List.append_nil, List.getElem?_cons_zero, List.getElem?_cons_succ, List.filterMap, List.set, omap_some, obind_some, isTy, blOf, if_t, if_f, lenF, leD_i, leD_s, ltD_i, ltD_s, gtD_i, geD_i, addD_i, subD_i, mulD_i, itemsD, wipeD, Tgt.put, setAll, outR, lb0, lb1, lb2, lb3, lb4, lb5, lb6, lb7, lb8, lb9, lb10, lb11, lb12, allF, listF, tupleF, intF, eq_self_iff_true, if_true, if_false, decide_true, decide_false, Bool.true_and, Bool.false_and, Bool.and_true, Bool.and_false, Bool.not_true, Bool.not_false, Nat.sub_self, Nat.reduceAdd, Nat.reduceSub, Nat.reduceEqDiff, is_word_str z 4 st hz]
  rfl
theorem okN_of {z : Str} (h : NameS z) : okN 4 z = true := by
  obtain ⟨h1, h2, h3⟩ := h
  unfold okN
  rw [h3, decide_eq_true (show (1 : Int) ≤ z.length by omega), decide_eq_true (show (z.length : Int) ≤ 4 by omega)]; rfl
end Dn

set_option Elab.async false
set_option linter.all false
set_option maxRecDepth 100000
set_option maxHeartbeats 4000000
namespace Dn
open PySem PySem.Spec PyProof.Rows L2
/-! ### words -/
def okC (x : Str) : Bool := x.cps.all (· < 0x110000)
theorem eqB_txt {x y : Str} (hx : okC x = true) (hy : okC y = true) : eqB (.str x) (.str y) = some (decide (x = y)) := by
  have sh : ∀ z : Str, okC z = true → shP (.str z) = some (.str z) := fun z hz => by
    show (if SeqAt.shaped (PyData.str z) = true then some (PyData.str z) else none) = _
    refine if_pos ?_
    unfold SeqAt.shaped
    rw [show PyData.canLay0 (PyData.str z) = true from hz]
    rfl
  have e : PyData.eqv (.str x) (.str y) = decide (x = y) := by
    simp only [PyData.eqv]
    rw [Bool.eq_iff_iff, beq_iff_eq, decide_eq_true_eq]
  unfold eqB
  rw [sh x hx, sh y hy, obind_some, omap_some, e]
theorem eqD_txt {x y : Str} (hx : okC x = true) (hy : okC y = true) : eqD (.str x) (.str y) = some (.bl (decide (x = y))) := by
  unfold Dn.eqD
  rw [eqB_txt hx hy, omap_some]
/-- not equal, equal: texts that are known -/
def chN (x y : Str) : Bool := okC x && okC y && !decide (x = y)
theorem eq_n {x y : Str} (h : chN x y = true) : eqD (.str x) (.str y) = some (.bl false) := by
  unfold chN at h
  rw [Bool.and_eq_true, Bool.and_eq_true, Bool.not_eq_true'] at h
  rw [eqD_txt h.1.1 h.1.2, h.2]
theorem eq_y {x : Str} (h : okC x = true) : eqD (.str x) (.str x) = some (.bl true) := by
  rw [eqD_txt h h, decide_eq_true rfl]
def noSp (x : Str) : Bool := x.cps.toList.all (· != 32)
structure okT (x : Str) : Prop where
  ne : 1 ≤ x.length
  len : x.length ≤ 8
  c : okC x = true
  sp : noSp x = true
instance (x : Str) : Decidable (okT x) := decidable_of_iff (1 ≤ x.length ∧ x.length ≤ 8 ∧ okC x = true ∧ noSp x = true) ⟨fun ⟨a, b, c, d⟩ => ⟨a, b, c, d⟩, fun ⟨a, b, c, d⟩ => ⟨a, b, c, d⟩⟩
theorem okT_name {x : Str} (h : NameS x) : okT x := ⟨h.1, by have := h.2.1; omega, cps_ok h, by
  unfold noSp
  rw [List.all_eq_true]
  intro c hc
  have := List.all_eq_true.mp h.2.2 c hc
  unfold lowC at this
  rw [Bool.and_eq_true, decide_eq_true_eq, decide_eq_true_eq] at this
  rw [bne_iff_ne]
  omega⟩
def sepW (c : Str) : List (List Str) → List Str
  | [] => []
  | w :: ws => w ++ ws.flatMap fun v => c :: v
theorem sepW_snoc (c : Str) (w : List Str) : ∀ ws : List (List Str), sepW c (ws ++ [w]) = if ws = [] then w else sepW c ws ++ c :: w
  | [] => by simp [sepW]
  | v :: ws => by
    rw [if_neg (List.cons_ne_nil _ _), List.cons_append]
    show v ++ (ws ++ [w]).flatMap (fun v => c :: v) = (v ++ ws.flatMap fun v => c :: v) ++ c :: w
    rw [List.flatMap_append, List.append_assoc]
    simp
theorem sepW_len (c : Str) (k : Nat) : ∀ ws : List (List Str), (∀ w ∈ ws, w.length ≤ k) → (sepW c ws).length ≤ ws.length * (k + 1)
  | [], _ => by simp [sepW]
  | w :: ws, h => by
    have key : ∀ us : List (List Str), (∀ w ∈ us, w.length ≤ k) → (us.flatMap fun v => c :: v).length ≤ us.length * (k + 1) := by
      intro us
      induction us with
      | nil => intro _; simp
      | cons u us ih =>
        intro hu
        have a := ih fun x hx => hu x (List.mem_cons_of_mem _ hx)
        have b := hu u List.mem_cons_self
        rw [List.flatMap_cons, List.length_append, List.length_cons, List.length_cons, Nat.succ_mul]
        omega
    have a := key ws fun x hx => h x (List.mem_cons_of_mem _ hx)
    have b := h w List.mem_cons_self
    show (w ++ _).length ≤ _
    rw [List.length_append, List.length_cons, Nat.succ_mul]
    omega
theorem sepW_all {P : Str → Prop} {c : Str} (hc : P c) : ∀ ws : List (List Str), (∀ w ∈ ws, ∀ x ∈ w, P x) → ∀ x ∈ sepW c ws, P x
  | [], _, x, hx => absurd hx List.not_mem_nil
  | w :: ws, h, x, hx => by
    rcases List.mem_append.mp hx with q | q
    · exact h w List.mem_cons_self x q
    · obtain ⟨v, hv, q⟩ := List.mem_flatMap.mp q
      rcases List.mem_cons.mp q with q | q
      · rw [q]; exact hc
      · exact h v (List.mem_cons_of_mem _ hv) x q
/-! ### tests and steps with their words -/
def txI (i : Int) : Str := (toString i)
theorem txI_ok {i : Int} (h0 : 0 ≤ i) (h1 : i < 10) : okT (txI i) := by
  have : i = 0 ∨ i = 1 ∨ i = 2 ∨ i = 3 ∨ i = 4 ∨ i = 5 ∨ i = 6 ∨ i = 7 ∨ i = 8 ∨ i = 9 := by omega
  rcases this with h | h | h | h | h | h | h | h | h | h <;> subst h <;> decide +kernel
theorem str2_i {i : Int} (h0 : 0 ≤ i) (h1 : i < 10) : str2F [.int i] = some (.str (txI i)) := by
  have : i = 0 ∨ i = 1 ∨ i = 2 ∨ i = 3 ∨ i = 4 ∨ i = 5 ∨ i = 6 ∨ i = 7 ∨ i = 8 ∨ i = 9 := by omega
  refine if_pos ?_
  rcases this with h | h | h | h | h | h | h | h | h | h <;> subst h <;> decide +kernel
abbrev kIf : List Str := ["if"]
abbrev kO : List Str := ["("]
abbrev kC : List Str := [")"]
abbrev kE : List Str := ["else"]
abbrev kCEO : List Str := [")", "else", "("]
abbrev kRep (i : Int) : List Str := ["repeat", txI i, "("]
abbrev Asc (g : List Str) : Prop := g.Pairwise fun a b => sLt a b = true
structure Grp (g : List Str) : Prop where
  nm : ∀ z ∈ g, NameS z
  len : g.length ≤ 3
  asc : Asc g
inductive TeW : D → List Str → Prop
  | whole : TeW (.tup [.str "whole"]) ["whole"]
  | rank {g : List Str} {k : Int} : Grp g → 0 ≤ k → k < 7 → TeW (.tup [.str "rank", .tup (g.map .str), .int k]) ("rank" :: txI k :: g)
  | spans {g : List Str} {z : Str} : Grp g → NameS z → TeW (.tup [.str "spans", .tup (g.map .str), .str z]) ("spans" :: z :: g)
abbrev tupS (g : List Str) : D := .tup (g.map .str)
inductive PlW : D → List Str → Prop
  | dual : PlW (.tup [.str "dual"]) ["dual"]
  | cut : PlW (.tup [.str "cut"]) ["cut"]
  | del {x : Str} : NameS x → PlW (.tup [.str "delete", .str x]) ["delete", x]
  | con {x : Str} : NameS x → PlW (.tup [.str "contract", .str x]) ["contract", x]
  | top {x : Str} : NameS x → PlW (.tup [.str "top", .str x]) ["top", x]
  | use {x : Str} : okT x → okN 6 x = true → PlW (.tup [.str "use", .str x]) ["use", x]
  | ren {x y : Str} : NameS x → NameS y → PlW (.tup [.str "rename", .str x, .str y]) ["rename", x, y]
  | ext {p : Str} {g : List Str} : NameS p → Grp g → PlW (.tup [.str "extend", .str p, tupS g]) ("extend" :: p :: g)
  | tru {g : List Str} : Grp g → PlW (.tup [.str "truncate", tupS g]) ("truncate" :: g)
  | uni {g : List Str} {gs : List (List Str)} : (∀ h ∈ g :: gs, Grp h) → gs.length ≤ 2 → PlW (.tup [.str "unite", .tup ((g :: gs).map tupS)]) ("unite" :: sepW "," (g :: gs))
def SsOf (R : D → List Str → Prop) (m : Nat) (ds : List D) (ws : List Str) : Prop := ∃ ps : List (D × List Str), ds = ps.map (·.1) ∧ ws = sepW ";" (ps.map (·.2)) ∧ (∀ p ∈ ps, R p.1 p.2) ∧ ps.length ≤ m
def StW : Nat → D → List Str → Prop
  | 0 => fun _ _ => False
  | n + 1 => fun d ws => PlW d ws ∨ (∃ t tw as wa bs wb, TeW t tw ∧ SsOf (StW n) 5 as wa ∧ SsOf (StW n) 5 bs wb ∧ d = .tup [.str "if", t, .tup as, .tup bs] ∧ ws = kIf ++ tw ++ kO ++ wa ++ kCEO ++ wb ++ kC)
      ∨ (∃ (i : Int) (as : List D) (wa : List Str), 1 ≤ i ∧ i < 5 ∧ SsOf (StW n) 5 as wa ∧ d = .tup [.str "repeat", .int i, .tup as] ∧ ws = kRep i ++ wa ++ kC)
def bdW : Nat → Nat
  | 0 => 0
  | n + 1 => 10 * (bdW n + 1) + 16
structure Wd8 (k : Nat) (ws : List Str) : Prop where
  all : ∀ x ∈ ws, okT x
  len : ws.length ≤ k
  ne : ws ≠ []
theorem all_cons {P : Str → Prop} {x : Str} {xs : List Str} (h : P x) (t : ∀ y ∈ xs, P y) : ∀ y ∈ x :: xs, P y := fun y hy => by
  rcases List.mem_cons.mp hy with q | q
  · rw [q]; exact h
  · exact t y q
theorem all_app {P : Str → Prop} {xs ys : List Str} (h : ∀ y ∈ xs, P y) (t : ∀ y ∈ ys, P y) : ∀ y ∈ xs ++ ys, P y := fun y hy => by
  rcases List.mem_append.mp hy with q | q
  · exact h y q
  · exact t y q
theorem all_nil {P : Str → Prop} : ∀ y ∈ ([] : List Str), P y := fun y hy => absurd hy List.not_mem_nil
theorem Grp.ok {g : List Str} (h : Grp g) : ∀ y ∈ g, okT y := fun y hy => okT_name (h.nm y hy)
theorem TeW.wd {t : D} {tw : List Str} (h : TeW t tw) : Wd8 5 tw := by
  cases h with
  | whole => exact ⟨all_cons (by decide +kernel) all_nil, by decide, List.cons_ne_nil _ _⟩
  | rank g h0 h1 => exact ⟨all_cons (by decide +kernel) (all_cons (txI_ok (by omega) (by omega)) g.ok), by have := g.len; simp only [List.length_cons]; omega, List.cons_ne_nil _ _⟩
  | spans g hz => exact ⟨all_cons (by decide +kernel) (all_cons (okT_name hz) g.ok), by have := g.len; simp only [List.length_cons]; omega, List.cons_ne_nil _ _⟩
theorem PlW.wd {d : D} {ws : List Str} (h : PlW d ws) : Wd8 16 ws := by
  cases h with
  | dual => exact ⟨all_cons (by decide +kernel) all_nil, by decide, List.cons_ne_nil _ _⟩
  | cut => exact ⟨all_cons (by decide +kernel) all_nil, by decide, List.cons_ne_nil _ _⟩
  | del x => exact ⟨all_cons (by decide +kernel) (all_cons (okT_name x) all_nil), by simp, List.cons_ne_nil _ _⟩
  | con x => exact ⟨all_cons (by decide +kernel) (all_cons (okT_name x) all_nil), by simp, List.cons_ne_nil _ _⟩
  | top x => exact ⟨all_cons (by decide +kernel) (all_cons (okT_name x) all_nil), by simp, List.cons_ne_nil _ _⟩
  | use x _ => exact ⟨all_cons (by decide +kernel) (all_cons x all_nil), by simp, List.cons_ne_nil _ _⟩
  | ren x y => exact ⟨all_cons (by decide +kernel) (all_cons (okT_name x) (all_cons (okT_name y) all_nil)), by simp, List.cons_ne_nil _ _⟩
  | ext p g => exact ⟨all_cons (by decide +kernel) (all_cons (okT_name p) g.ok), by have := g.len; simp only [List.length_cons]; omega, List.cons_ne_nil _ _⟩
  | tru g => exact ⟨all_cons (by decide +kernel) g.ok, by have := g.len; simp only [List.length_cons]; omega, List.cons_ne_nil _ _⟩
  | @uni g gs hg hl =>
    refine ⟨all_cons (by decide +kernel) (sepW_all (by decide +kernel) _ fun w hw => (hg w hw).ok), ?_, List.cons_ne_nil _ _⟩
    have := sepW_len "," 3 (g :: gs) fun w hw => (hg w hw).len
    rw [List.length_cons] at this ⊢
    omega
theorem SsOf.wd {R : D → List Str → Prop} {m k : Nat} {ds : List D} {ws : List Str} (h : SsOf R m ds ws) (hR : ∀ d w, R d w → Wd8 k w) : (∀ x ∈ ws, okT x) ∧ ws.length ≤ m * (k + 1) := by
  obtain ⟨ps, rfl, rfl, h1, h2⟩ := h
  refine ⟨sepW_all (by decide +kernel) _ fun w hw => ?_, ?_⟩
  · obtain ⟨p, hp, rfl⟩ := List.mem_map.mp hw
    exact (hR _ _ (h1 p hp)).all
  · have := sepW_len ";" k (ps.map (·.2)) fun w hw => by
      obtain ⟨p, hp, rfl⟩ := List.mem_map.mp hw
      exact (hR _ _ (h1 p hp)).len
    rw [List.length_map] at this
    exact Nat.le_trans this (Nat.mul_le_mul_right _ h2)
theorem bdW_ge (n : Nat) : 16 ≤ bdW (n + 1) := by show 16 ≤ 10 * (bdW n + 1) + 16; omega
theorem StW.wd : ∀ {n : Nat} {d : D} {ws : List Str}, StW n d ws → Wd8 (bdW n) ws
  | n + 1, d, ws, .inl h => ⟨h.wd.all, Nat.le_trans h.wd.len (bdW_ge _), h.wd.ne⟩
  | n + 1, d, ws, .inr (.inl ⟨t, tw, as, wa, bs, wb, ht, ha, hb, e1, e2⟩) => by
    obtain ⟨a1, a2⟩ := ha.wd fun _ _ => StW.wd
    obtain ⟨b1, b2⟩ := hb.wd fun _ _ => StW.wd
    have t2 := ht.wd.len
    subst e2
    refine ⟨all_app (all_app (all_app (all_app (all_app (all_app (all_cons (by decide +kernel) all_nil) ht.wd.all) (all_cons (by decide +kernel) all_nil)) a1) (all_cons (by decide +kernel) (all_cons (by decide +kernel) (all_cons (by decide +kernel) all_nil)))) b1) (all_cons (by decide +kernel) all_nil), ?_, by simp⟩
    simp only [List.length_cons, List.length_append, List.length_nil]
    show _ ≤ 10 * (bdW n + 1) + 16
    omega
  | n + 1, d, ws, .inr (.inr ⟨i, as, wa, h0, h1, ha, e1, e2⟩) => by
    obtain ⟨a1, a2⟩ := ha.wd fun _ _ => StW.wd
    subst e2
    refine ⟨all_app (all_app (all_cons (by decide +kernel) (all_cons (txI_ok (by omega) (by omega)) (all_cons (by decide +kernel) all_nil))) a1) (all_cons (by decide +kernel) all_nil), ?_, by simp⟩
    simp only [List.length_cons, List.length_append, List.length_nil]
    show _ ≤ 10 * (bdW n + 1) + 16
    omega
theorem bd3 : bdW 3 = 2886 := by decide
theorem bdW_mono : ∀ {n m : Nat}, n ≤ m → bdW n ≤ bdW m
  | 0, _, _ => Nat.zero_le _
  | n + 1, m + 1, h => by
    have := bdW_mono (Nat.le_of_succ_le_succ h)
    show 10 * (bdW n + 1) + 16 ≤ 10 * (bdW m + 1) + 16
    omega
/-- lists of texts -/
theorem addS {a b : List Str} (h : a.length + b.length ≤ big) : addD (.lst (a.map .str)) (.lst (b.map .str)) = some (.lst ((a ++ b).map .str)) := by
  rw [List.map_append]
  exact if_pos (by rw [List.length_map, List.length_map]; exact h)
theorem ne_nilT {ws : List Str} (ok : ∀ z ∈ ws, okT z) : neD (.lst (ws.map .str)) (.lst []) = some (.bl (!ws.isEmpty)) := by
  have pls : ∀ z, okT z → Pl 0 (.str z) := fun z h => .str h.c (Nat.le_trans h.len (by decide))
  cases ws with
  | nil => exact (Pl.lst (n := 0) (ds := []) (fun _ h => absurd h List.not_mem_nil) (Nat.zero_le _)).neD (by decide)
  | cons z zs =>
    have pl : ∀ x ∈ (zs.map D.str), ∃ p, toPy x = some p ∧ PyData.canLay0 p = true ∧ PyData.depth p ≤ 0 := fun x hx => by
      obtain ⟨y, hy, rfl⟩ := List.mem_map.mp hx
      exact (pls y (ok y (List.mem_cons_of_mem _ hy))).py
    obtain ⟨p, h1, h2, h3⟩ := (pls z (ok z List.mem_cons_self)).py
    obtain rfl : PyData.str z = p := Option.some.inj h1
    obtain ⟨ps, g1, g2, g3⟩ := pys_all pl
    have sh : shP (.lst ((z :: zs).map .str)) = some (.list (PyData.str z :: ps)) := by
      unfold shP
      rw [show toPy (.lst ((z :: zs).map .str)) = some (.list (PyData.str z :: ps)) by simp only [List.map_cons, toPy, toPys, toPy, g1, Option.bind, Option.map], obind_some]
      refine if_pos ?_
      unfold SeqAt.shaped
      have c : (PyData.list (PyData.str z :: ps)).canLay0 = true := by
        show PyData.canLayAll0 (PyData.str z :: ps) = true
        unfold PyData.canLayAll0
        rw [h2, g2]; rfl
      have d : (PyData.list (PyData.str z :: ps)).depth ≤ 64 := by
        unfold PyData.depth PyData.depthAll
        omega
      rw [c, decide_eq_true d]; rfl
    have sn : shP (.lst []) = some (.list []) := rfl
    unfold Dn.neD eqB
    rw [sh, sn]
    rfl
end Dn

set_option Elab.async false
set_option linter.all false
set_option maxRecDepth 100000
set_option maxHeartbeats 4000000
namespace Dn
open PySem PySem.Spec PyProof.Rows L2
/-! ### what the program and the law write -/
theorem ix0 (x : D) (rest : List D) : ixD (.tup (x :: rest)) (.int 0) = some x := by
  show atI (x :: rest) 0 = _
  unfold atI ixN
  rw [if_pos (by decide), if_pos (by rw [List.length_cons]; omega)]
  rfl
theorem ix1 (x y : D) (rest : List D) : ixD (.tup (x :: y :: rest)) (.int 1) = some y := by
  show atI (x :: y :: rest) 1 = _
  unfold atI ixN
  rw [if_pos (by decide), if_pos (by rw [List.length_cons, List.length_cons]; omega)]
  rfl
section
variable {Δ : Dl} {st : Sta} {rest : List D} {w l : Str}
theorem n0 (h : chN w l = true) : tstP (binP eqD (binP ixD (varP 0) (cstP (.int 0))) (cstP (.str l))) (some (.tup (.str w :: rest)) :: Δ) st = some (.ok false, st) :=
  tst_at (bin_at (bin_at rfl rfl (ix0 _ _)) rfl (eq_n h))
theorem y0 (h : okC w = true) : tstP (binP eqD (binP ixD (varP 0) (cstP (.int 0))) (cstP (.str w))) (some (.tup (.str w :: rest)) :: Δ) st = some (.ok true, st) :=
  tst_at (bin_at (bin_at rfl rfl (ix0 _ _)) rfl (eq_y h))
variable {x0 : Option D}
theorem n1 (h : chN w l = true) : tstP (binP eqD (varP 1) (cstP (.str l))) (x0 :: some (.str w) :: Δ) st = some (.ok false, st) :=
  tst_at (bin_at rfl rfl (eq_n h))
theorem y1 (h : okC w = true) : tstP (binP eqD (varP 1) (cstP (.str w))) (x0 :: some (.str w) :: Δ) st = some (.ok true, st) :=
  tst_at (bin_at rfl rfl (eq_y h))
end
theorem big_of {n : Nat} (h : n ≤ 100000) : n ≤ big := by unfold big; omega
theorem lst_tup (ds : List D) : listF [.tup ds] = some (.lst ds) := rfl
theorem add2 {ta tb : EDen} {Δ : Dl} {s0 s1 s2 : Sta} {a b : List Str} (h1 : ta Δ s0 = some (.ok (.lst (a.map .str)), s1)) (h2 : tb Δ s1 = some (.ok (.lst (b.map .str)), s2)) (h : a.length + b.length ≤ 100000) : binP addD ta tb Δ s0 = some (.ok (.lst ((a ++ b).map .str)), s2) := bin_at h1 h2 (addS (big_of h))
theorem lst_at {te : EDen} {Δ : Dl} {s0 s1 : Sta} {g : List Str} (h : te Δ s0 = some (.ok (tupS g), s1)) : bltP listF (consP te nilP) Δ s0 = some (.ok (.lst (g.map .str)), s1) := blt_at (cons_at h rfl) rfl
theorem ix_at {te : EDen} {Δ : Dl} {s0 s1 : Sta} {d r : D} {i : Int} (h : te Δ s0 = some (.ok d, s1)) (hi : ixD d (.int i) = some r) : binP ixD te (cstP (.int i)) Δ s0 = some (.ok r, s1) := bin_at h rfl hi
/-! tests -/
section
variable {st : Sta} {t : D} {tw : List Str}
theorem test_p (h : TeW t tw) : F_words_of_test [t] st = some (.ok (.lst (tw.map .str)), st) := by
  refine run_ret rfl ?_
  unfold d_words_of_test
  cases h with
  | whole =>
    refine sq_step (if_ff (n0 (by decide +kernel)) rfl) ?_
    refine sq_step (if_ff (n0 (by decide +kernel)) rfl) ?_
    rfl
  | @rank g k hg h0 h1 =>
    have := hg.len
    refine sq_ret (if_tt (y0 (by decide +kernel)) (rt_at ?_))
    exact add2 (a := ["rank", txI k]) (b := g) (by
      show lstP (consP (cstP (.str "rank")) (consP _ nilP)) _ _ = _
      unfold lstP
      rw [cons_at (d := .str "rank") rfl (cons_at (blt_at (cons_at (ix_at rfl rfl) rfl) (str2_i (by omega) (by omega))) rfl), bd_ok]
      rfl) (lst_at (ix_at rfl rfl)) (by simp only [List.length_cons, List.length_nil]; omega)
  | @spans g z hg hz =>
    have := hg.len
    refine sq_step (if_ff (n0 (by decide +kernel)) rfl) ?_
    refine sq_ret (if_tt (y0 (by decide +kernel)) (rt_at ?_))
    exact add2 (a := ["spans", z]) (b := g) rfl (lst_at (ix_at rfl rfl)) (by simp only [List.length_cons, List.length_nil]; omega)
theorem test_l (h : TeW t tw) : F_l_test_words [t] st = some (.ok (.lst (tw.map .str)), st) := by
  refine run_ret rfl ?_
  unfold d_l_test_words
  cases h with
  | whole =>
    refine sq_ret (if_tt (y0 (by decide +kernel)) ?_)
    rfl
  | @rank g k hg h0 h1 =>
    have := hg.len
    refine sq_step (if_ff (n0 (by decide +kernel)) rfl) ?_
    refine rt_at ?_
    exact add2 (a := ["rank", txI k]) (b := g) (by
      show lstP (consP _ (consP _ nilP)) _ _ = _
      unfold lstP
      rw [cons_at (d := .str "rank") (ix_at rfl rfl) (cons_at (blt_at (cons_at (ix_at rfl rfl) rfl) (str2_i (by omega) (by omega))) rfl), bd_ok]
      rfl) (lst_at (ix_at rfl rfl)) (by simp only [List.length_cons, List.length_nil]; omega)
  | @spans g z hg hz =>
    have := hg.len
    refine sq_step (if_ff (n0 (by decide +kernel)) rfl) ?_
    refine rt_at ?_
    exact add2 (a := ["spans", z]) (b := g) (by
      show lstP (consP _ (consP _ nilP)) _ _ = _
      unfold lstP
      rw [cons_at (d := .str "spans") (ix_at rfl rfl) (cons_at (blt_at (cons_at (ix_at rfl rfl) rfl) (show str2F [.str z] = some (.str z) from rfl)) rfl), bd_ok]
      rfl) (lst_at (ix_at rfl rfl)) (by simp only [List.length_cons, List.length_nil]; omega)
end
/-! rows with a word between -/
theorem zipIdx_at {α : Type} (f : α → Nat → D) (xs : List α) (i : Nat) (d : D) (h : (xs.zipIdx.map fun p => f p.1 p.2)[i]? = some d) : ∃ x, xs[i]? = some x ∧ d = f x i := by
  rw [List.getElem?_map, List.getElem?_zipIdx] at h
  cases e : xs[i]? with
  | none => rw [e] at h; simp at h
  | some x => rw [e] at h; simp at h; exact ⟨x, rfl, h.symm⟩
/-- for at, x in enumerate(xs): if at > 0: words = words + [c]; words = words + (the words of x) -/
theorem sep_loop {α : Type} (f : α → D) (W : α → List Str) (c : Str) (te : EDen) (X : D) (st : Sta) (xs : List α) (x2 x3 : Option D) (hx : ∀ x ∈ xs, ∀ acc y2, te [some X, some acc, y2, some (f x)] st = some (.ok (.lst ((W x).map .str)), st)) (hb : (sepW c (xs.map W)).length ≤ 100000) :
    ∃ y2 y3, foGo (.tup [2, 3]) (sqP (ifP (tstP (binP gtD (varP 2) (cstP (.int 0)))) (asP (.one 1) (binP addD (varP 1) (lstP (consP (cstP (.str c)) nilP)))) nxP) (asP (.one 1) (binP addD (varP 1) te)))
      ((xs.map f).zipIdx.map fun p => .tup [.int (p.2 : Nat), p.1]) [some X, some (.lst []), x2, x3] st = some (.ok (.nx [some X, some (.lst ((sepW c (xs.map W)).map .str)), y2, y3]), st) := by
  have mono : ∀ k, (sepW c ((xs.map W).take k)).length ≤ (sepW c (xs.map W)).length := fun k => by
    cases hw : xs.map W with
    | nil => simp [sepW]
    | cons u us =>
      cases k with
      | zero => simp [sepW]
      | succ k =>
        show (u ++ (us.take k).flatMap fun v => c :: v).length ≤ (u ++ us.flatMap fun v => c :: v).length
        rw [List.length_append, List.length_append]
        have : us = us.take k ++ us.drop k := (List.take_append_drop _ _).symm
        have e : (us.flatMap fun v => c :: v).length = ((us.take k).flatMap fun v => c :: v).length + ((us.drop k).flatMap fun v => c :: v).length := by
          rw [← List.length_append, ← List.flatMap_append, List.take_append_drop]
        omega
  obtain ⟨Δ', st', q, y2, y3, e1, e2⟩ := fo_inv (g := .tup [2, 3]) (tb := sqP (ifP (tstP (binP gtD (varP 2) (cstP (.int 0)))) (asP (.one 1) (binP addD (varP 1) (lstP (consP (cstP (.str c)) nilP)))) nxP) (asP (.one 1) (binP addD (varP 1) te)))
    (fun k Δ s' => ∃ (y2 y3 : Option D), Δ = [some X, some (.lst ((sepW c ((xs.map W).take k)).map .str)), y2, y3] ∧ s' = st)
    ((xs.map f).zipIdx.map fun p => .tup [.int (p.2 : Nat), p.1]) 0 [some X, some (.lst []), x2, x3] st ⟨x2, x3, by simp [sepW], rfl⟩ (fun i d hd Δ s' ⟨y2, y3, e1, e2⟩ => by
      subst e1
      subst e2
      obtain ⟨fx, hi, rfl⟩ := zipIdx_at (fun a n => D.tup [.int (n : Nat), a]) (xs.map f) i d hd
      rw [List.getElem?_map] at hi
      obtain ⟨x, hxi, rfl⟩ := Option.map_eq_some_iff.mp hi
      obtain ⟨hlt, hxe⟩ := List.getElem?_eq_some_iff.mp hxi
      have hxm : x ∈ xs := by rw [← hxe]; exact List.getElem_mem hlt
      rw [Nat.zero_add]
      have tk : (xs.map W).take (i + 1) = (xs.map W).take i ++ [W x] := by
        rw [List.take_add_one, List.getElem?_map, hxi]; rfl
      have bnd := mono (i + 1)
      rw [tk, sepW_snoc] at bnd
      refine ⟨[some X, some (.lst ((sepW c ((xs.map W).take i)).map .str)), some (.int (i : Nat)), some (f x)], _, s', rfl, ?_, some (.int (i : Nat)), some (f x), rfl, rfl⟩
      rw [tk, sepW_snoc]
      by_cases h0 : i = 0
      · subst h0
        refine sq_step (if_ff (st1 := s') (tst_at (bin_at rfl rfl (gtD_i _ _))) rfl) ?_
        refine as_at (d := .lst ((W x).map .str)) (bin_at rfl (hx x hxm _ _) ?_) rfl
        show addD (.lst []) (.lst ((W x).map .str)) = _
        exact (addS (a := []) (b := W x) (big_of (by rw [List.take_zero, if_pos rfl] at bnd; simp only [List.length_nil]; omega)))
      · have ne : (xs.map W).take i ≠ [] := by
          intro q
          have := congrArg List.length q
          rw [List.length_take, List.length_map, List.length_nil] at this
          omega
        rw [if_neg ne] at bnd ⊢
        rw [List.length_append, List.length_cons] at bnd
        have h1 : decide ((0 : Int) < ((i : Nat) : Int)) = true := decide_eq_true (by omega)
        refine sq_step (Δ1 := [some X, some (.lst ((sepW c ((xs.map W).take i) ++ [c]).map .str)), some (.int (i : Nat)), some (f x)]) (if_tt (st1 := s') (tst_at (bin_at rfl rfl (by rw [gtD_i, h1]))) (as_at (add2 (a := sepW c ((xs.map W).take i)) (b := [c]) rfl rfl (by simp only [List.length_cons, List.length_nil]; omega)) rfl)) ?_
        rw [show sepW c ((xs.map W).take i) ++ c :: W x = (sepW c ((xs.map W).take i) ++ [c]) ++ W x by rw [List.append_assoc]; rfl]
        exact as_at (add2 (a := sepW c ((xs.map W).take i) ++ [c]) (b := W x) rfl (hx x hxm _ _) (by rw [List.length_append]; simp only [List.length_cons, List.length_nil]; omega)) rfl)
  subst e1
  subst e2
  rw [List.length_map, List.length_zipIdx, List.length_map, Nat.zero_add, List.take_of_length_le (by rw [List.length_map]; exact Nat.le_refl _)] at q
  exact ⟨y2, y3, q⟩
theorem bases_p {gs : List (List Str)} (hb : (sepW "," gs).length ≤ 100000) (st : Sta) : F_words_of_bases [.tup (gs.map tupS)] st = some (.ok (.lst ((sepW "," gs).map .str)), st) := by
  obtain ⟨y2, y3, q⟩ := sep_loop tupS (fun g => g) "," (bltP listF (consP (varP 3) nilP)) (.tup (gs.map tupS)) st gs none none (fun x _ acc y2 => lst_at rfl) (by rw [List.map_id']; exact hb)
  rw [List.map_id'] at q
  refine run_ret rfl ?_
  unfold d_words_of_bases
  refine sq_step (st1 := st) (Δ1 := [some (.tup (gs.map tupS)), some (.lst []), none, none]) rfl ?_
  refine sq_step (by
    unfold foP
    rw [show enu2P (consP (varP 0) nilP) [some (.tup (gs.map tupS)), some (.lst []), none, none] st = some (.ok ((gs.map tupS).zipIdx.map fun p => .tup [.int (p.2 : Nat), p.1]), st) from rfl, bd_ok]
    exact q) ?_
  rfl
end Dn

set_option Elab.async false
set_option linter.all false
set_option maxRecDepth 100000
set_option maxHeartbeats 4000000
namespace Dn
open PySem PySem.Spec PyProof.Rows L2
abbrev wCm : Str := ","
abbrev wSm : Str := ";"
abbrev wUn : Str := "unite"
abbrev kR2 (i : Int) : List Str := ["repeat", txI i]
abbrev kCm : List Str := [","]
abbrev kSm : List Str := [";"]
theorem bd_le {n : Nat} (h : n ≤ 2) : 5 * (bdW n + 1) ≤ 1435 := by
  have := bdW_mono h
  have e : bdW 2 = 286 := by decide
  omega
section
variable {n : Nat} {F : FDen} (hF : ∀ ds ws, SsOf (StW n) 5 ds ws → ∀ st, F [.tup ds] st = some (.ok (.lst (ws.map .str)), st)) (hn : n ≤ 2)
include hF hn
theorem sub_len5 {ds : List D} {ws : List Str} (h : SsOf (StW n) 5 ds ws) : ws.length ≤ 1435 := Nat.le_trans (h.wd fun _ _ => StW.wd).2 (bd_le hn)
theorem brackets_p {ds : List D} {ws : List Str} (h : SsOf (StW n) 5 ds ws) (st : Sta) : F_in_brackets F [.tup ds] st = some (.ok (.lst ((kO ++ ws ++ kC).map .str)), st) := by
  have l := sub_len5 hF hn h
  refine run_ret rfl (rt_at ?_)
  exact add2 (a := kO ++ ws) (b := kC) (add2 (a := kO) (b := ws) rfl ((call_at (cons_at rfl rfl)).trans (hF _ _ h st)) (by simp only [List.length_cons, List.length_nil]; omega)) rfl (by simp only [List.length_append, List.length_cons, List.length_nil]; omega)
theorem step_p {d : D} {ws : List Str} (h : StW (n + 1) d ws) (st : Sta) : F_words_of_step F [d] st = some (.ok (.lst (ws.map .str)), st) := by
  refine run_ret rfl ?_
  unfold d_words_of_step
  rcases h with h | ⟨t, tw, as, wa, bs, wb, ht, ha, hb, rfl, rfl⟩ | ⟨i, as, wa, h0, h1, ha, rfl, rfl⟩
  · cases h with
    | dual =>
      refine sq_step (if_ff (n0 (by decide +kernel)) rfl) (sq_step (if_ff (n0 (by decide +kernel)) rfl) (sq_step (if_ff (n0 (by decide +kernel)) rfl) (sq_step (if_ff (n0 (by decide +kernel)) rfl) (sq_step (if_ff (n0 (by decide +kernel)) rfl) ?_))))
      rfl
    | cut =>
      refine sq_step (if_ff (n0 (by decide +kernel)) rfl) (sq_step (if_ff (n0 (by decide +kernel)) rfl) (sq_step (if_ff (n0 (by decide +kernel)) rfl) (sq_step (if_ff (n0 (by decide +kernel)) rfl) (sq_step (if_ff (n0 (by decide +kernel)) rfl) ?_))))
      rfl
    | del _ =>
      refine sq_step (if_ff (n0 (by decide +kernel)) rfl) (sq_step (if_ff (n0 (by decide +kernel)) rfl) (sq_step (if_ff (n0 (by decide +kernel)) rfl) (sq_step (if_ff (n0 (by decide +kernel)) rfl) (sq_step (if_ff (n0 (by decide +kernel)) rfl) ?_))))
      rfl
    | con _ =>
      refine sq_step (if_ff (n0 (by decide +kernel)) rfl) (sq_step (if_ff (n0 (by decide +kernel)) rfl) (sq_step (if_ff (n0 (by decide +kernel)) rfl) (sq_step (if_ff (n0 (by decide +kernel)) rfl) (sq_step (if_ff (n0 (by decide +kernel)) rfl) ?_))))
      rfl
    | top _ =>
      refine sq_step (if_ff (n0 (by decide +kernel)) rfl) (sq_step (if_ff (n0 (by decide +kernel)) rfl) (sq_step (if_ff (n0 (by decide +kernel)) rfl) (sq_step (if_ff (n0 (by decide +kernel)) rfl) (sq_step (if_ff (n0 (by decide +kernel)) rfl) ?_))))
      rfl
    | use _ _ =>
      refine sq_step (if_ff (n0 (by decide +kernel)) rfl) (sq_step (if_ff (n0 (by decide +kernel)) rfl) (sq_step (if_ff (n0 (by decide +kernel)) rfl) (sq_step (if_ff (n0 (by decide +kernel)) rfl) (sq_step (if_ff (n0 (by decide +kernel)) rfl) ?_))))
      rfl
    | ren _ _ =>
      refine sq_step (if_ff (n0 (by decide +kernel)) rfl) (sq_step (if_ff (n0 (by decide +kernel)) rfl) (sq_step (if_ff (n0 (by decide +kernel)) rfl) (sq_step (if_ff (n0 (by decide +kernel)) rfl) (sq_step (if_ff (n0 (by decide +kernel)) rfl) ?_))))
      rfl
    | @ext p g hp hg =>
      have := hg.len
      refine sq_ret (if_tt (y0 (by decide +kernel)) (rt_at ?_))
      exact add2 (a := ["extend", p]) (b := g) rfl (lst_at (ix_at rfl rfl)) (by simp only [List.length_cons, List.length_nil]; omega)
    | @tru g hg =>
      have := hg.len
      refine sq_step (if_ff (n0 (by decide +kernel)) rfl) ?_
      refine sq_ret (if_tt (y0 (by decide +kernel)) (rt_at ?_))
      exact add2 (a := ["truncate"]) (b := g) rfl (lst_at (ix_at rfl rfl)) (by simp only [List.length_cons, List.length_nil]; omega)
    | @uni g gs hg hl =>
      have lb := sepW_len "," 3 (g :: gs) fun w hw => (hg w hw).len
      rw [List.length_cons] at lb
      refine sq_step (if_ff (n0 (by decide +kernel)) rfl) (sq_step (if_ff (n0 (by decide +kernel)) rfl) ?_)
      refine sq_ret (if_tt (y0 (by decide +kernel)) (rt_at ?_))
      exact add2 (a := ["unite"]) (b := sepW "," (g :: gs)) rfl ((call_at (cons_at (ix_at rfl rfl) rfl)).trans (bases_p (gs := g :: gs) (by omega) st)) (by simp only [List.length_cons, List.length_nil]; omega)
  · have la := sub_len5 hF hn ha
    have lb := sub_len5 hF hn hb
    have lt := ht.wd.len
    refine sq_step (if_ff (n0 (by decide +kernel)) rfl) (sq_step (if_ff (n0 (by decide +kernel)) rfl) (sq_step (if_ff (n0 (by decide +kernel)) rfl) ?_))
    refine sq_ret (if_tt (y0 (by decide +kernel)) ?_)
    refine sq_step (st1 := st) (Δ1 := [some (.tup [.str "if", t, .tup as, .tup bs]), some (.lst ((kO ++ wa ++ kC).map .str)), some (.lst ((kO ++ wb ++ kC).map .str))]) (by
      unfold parP
      rw [cons_at ((call_at (cons_at (ix_at rfl rfl) rfl)).trans (brackets_p hF hn ha st)) (cons_at ((call_at (cons_at (ix_at rfl rfl) rfl)).trans (brackets_p hF hn hb st)) rfl), bd_ok]
      rfl) ?_
    refine rt_at ?_
    rw [show kIf ++ tw ++ kO ++ wa ++ kCEO ++ wb ++ kC = ((kIf ++ tw) ++ (kO ++ wa ++ kC) ++ kE) ++ (kO ++ wb ++ kC) by simp]
    exact add2 (add2 (add2 (add2 (a := kIf) rfl ((call_at (cons_at (ix_at rfl rfl) rfl)).trans (test_p ht)) (by simp only [List.length_cons, List.length_nil]; omega)) rfl (by simp only [List.length_cons, List.length_nil, List.length_append]; omega)) (b := kE) rfl (by simp only [List.length_cons, List.length_nil, List.length_append]; omega)) rfl (by simp only [List.length_cons, List.length_nil, List.length_append]; omega)
  · have la := sub_len5 hF hn ha
    refine sq_step (if_ff (n0 (by decide +kernel)) rfl) (sq_step (if_ff (n0 (by decide +kernel)) rfl) (sq_step (if_ff (n0 (by decide +kernel)) rfl) (sq_step (if_ff (n0 (by decide +kernel)) rfl) ?_)))
    refine sq_ret (if_tt (y0 (by decide +kernel)) (rt_at ?_))
    rw [show kRep i ++ wa ++ kC = kR2 i ++ (kO ++ wa ++ kC) by simp]
    exact add2 (a := kR2 i) (b := kO ++ wa ++ kC) (by
      unfold lstP
      rw [cons_at (d := .str "repeat") rfl (cons_at (blt_at (cons_at (ix_at rfl rfl) rfl) (str2_i (by omega) (by omega))) rfl), bd_ok]
      rfl) ((call_at (cons_at (ix_at rfl rfl) rfl)).trans (brackets_p hF hn ha st)) (by simp only [List.length_cons, List.length_nil, List.length_append]; omega)
end
theorem SsOf.mono {R : D → List Str → Prop} {m k : Nat} {ds : List D} {ws : List Str} (h : SsOf R m ds ws) (hk : m ≤ k) : SsOf R k ds ws := by
  obtain ⟨ps, a, b, c, d⟩ := h
  exact ⟨ps, a, b, c, Nat.le_trans d hk⟩
theorem steps_p : ∀ (n k m : Nat) {ds : List D} {ws : List Str}, n < k → n ≤ 3 → m ≤ 12 → SsOf (StW n) m ds ws → ∀ st, F_words_of_steps k [.tup ds] st = some (.ok (.lst (ws.map .str)), st)
  | n, k + 1, m, ds, ws, hk, h3, hm, h, st => by
    have lw := (h.wd fun _ _ => StW.wd).2
    have b3 : bdW n ≤ 2886 := by have := bdW_mono h3; rw [bd3] at this; exact this
    have lb : ws.length ≤ 100000 := Nat.le_trans lw (by have : m * (bdW n + 1) ≤ 12 * (2886 + 1) := Nat.mul_le_mul hm (by omega); omega)
    obtain ⟨ps, rfl, rfl, hp, hl⟩ := h
    obtain ⟨y2, y3, q⟩ := sep_loop (fun p : D × List Str => p.1) (fun p => p.2) ";" (callP (F_words_of_step (F_words_of_steps k)) (consP (varP 3) nilP)) (.tup (ps.map (·.1))) st ps none none (fun p hpm acc y2 => by
      refine (call_at (cons_at rfl rfl)).trans ?_
      have hs := hp p hpm
      cases n with
      | zero => exact hs.elim
      | succ n => exact step_p (n := n) (fun ds ws hh st => steps_p n k 5 (by omega) (by omega) (by decide) hh st) (by omega) hs st) lb
    refine run_ret rfl ?_
    unfold d_words_of_steps
    refine sq_step (st1 := st) (Δ1 := [some (.tup (ps.map (·.1))), some (.lst []), none, none]) rfl ?_
    refine sq_step (by
      unfold foP
      rw [show enu2P (consP (varP 0) nilP) [some (.tup (ps.map (·.1))), some (.lst []), none, none] st = some (.ok ((ps.map (·.1)).zipIdx.map fun p => .tup [.int (p.2 : Nat), p.1]), st) from rfl, bd_ok]
      exact q) ?_
    rfl
/-! the law's side -/
theorem cut1 (x : D) (xs : List D) : cutL (x :: xs) (some 1) none = xs := by
  have e1 : HT.sIx (x :: xs).length 0 (some 1) = 1 := by
    rw [show (some (1 : Int)) = some ((1 : Nat) : Int) from rfl, HT.sIx_nat, List.length_cons]
    omega
  unfold cutL
  rw [e1, HT.sIx_none]
  show List.take _ xs = xs
  exact List.take_of_length_le (by rw [List.length_cons]; omega)
theorem uni_loop (X : D) (st : Sta) (y1 : Option D) (gs : List (List Str)) (acc : List Str) (x3 : Option D) (hb : acc.length + (gs.flatMap fun h => wCm :: h).length ≤ 100000) :
    ∃ y3, foGo (.one 3) (asP (.one 2) (binP addD (binP addD (varP 2) (lstP (consP (cstP (.str ",")) nilP))) (bltP listF (consP (varP 3) nilP)))) (gs.map tupS) [some X, y1, some (.lst (acc.map .str)), x3] st = some (.ok (.nx [some X, y1, some (.lst ((acc ++ gs.flatMap fun h => wCm :: h).map .str)), y3]), st) := by
  induction gs generalizing acc x3 with
  | nil => exact ⟨x3, by rw [List.flatMap_nil, List.append_nil]; rfl⟩
  | cons g gs ih =>
    rw [List.flatMap_cons, List.length_append, List.length_cons] at hb
    obtain ⟨y3, q⟩ := ih (acc ++ wCm :: g) (some (tupS g)) (by rw [List.length_append, List.length_cons]; omega)
    refine ⟨y3, ?_⟩
    rw [List.map_cons]
    unfold foGo
    rw [show (Tgt.one 3).put (tupS g) [some X, y1, some (.lst (acc.map .str)), x3] = some [some X, y1, some (.lst (acc.map .str)), some (tupS g)] from rfl, obind_some,
      as_at (Δ := [some X, y1, some (.lst (acc.map .str)), some (tupS g)]) (st := st) (st1 := st) (d := .lst ((acc ++ kCm ++ g).map .str)) (Δ1 := [some X, y1, some (.lst ((acc ++ kCm ++ g).map .str)), some (tupS g)])
        (add2 (a := acc ++ kCm) (b := g) (add2 (a := acc) (b := kCm) rfl rfl (by simp only [List.length_cons, List.length_nil]; omega)) (lst_at rfl) (by rw [List.length_append]; simp only [List.length_cons, List.length_nil]; omega)) rfl]
    rw [show acc ++ kCm ++ g = acc ++ wCm :: g by simp]
    rw [List.flatMap_cons, show acc ++ (wCm :: g ++ gs.flatMap fun h => wCm :: h) = (acc ++ wCm :: g) ++ gs.flatMap fun h => wCm :: h by simp]
    exact q
section
variable {n : Nat} {F : FDen} (hF : ∀ ds ws, SsOf (StW n) 5 ds ws → ∀ st, F [.tup ds] st = some (.ok (.lst (ws.map .str)), st)) (hn : n ≤ 2)
include hF hn
theorem step_l {d : D} {ws : List Str} (h : StW (n + 1) d ws) (st : Sta) : F_l_step_words F [d] st = some (.ok (.lst (ws.map .str)), st) := by
  refine run_ret rfl ?_
  unfold d_l_step_words
  rcases h with h | ⟨t, tw, as, wa, bs, wb, ht, ha, hb, rfl, rfl⟩ | ⟨i, as, wa, h0, h1, ha, rfl, rfl⟩
  · cases h with
    | dual =>
      refine sq_step (as_at (ix_at rfl rfl) rfl) (sq_step (if_ff (n1 (by decide +kernel)) rfl) (sq_step (if_ff (n1 (by decide +kernel)) rfl) (sq_step (if_ff (n1 (by decide +kernel)) rfl) (sq_step (if_ff (n1 (by decide +kernel)) rfl) (sq_step (if_ff (n1 (by decide +kernel)) rfl) ?_)))))
      rfl
    | cut =>
      refine sq_step (as_at (ix_at rfl rfl) rfl) (sq_step (if_ff (n1 (by decide +kernel)) rfl) (sq_step (if_ff (n1 (by decide +kernel)) rfl) (sq_step (if_ff (n1 (by decide +kernel)) rfl) (sq_step (if_ff (n1 (by decide +kernel)) rfl) (sq_step (if_ff (n1 (by decide +kernel)) rfl) ?_)))))
      rfl
    | del _ =>
      refine sq_step (as_at (ix_at rfl rfl) rfl) (sq_step (if_ff (n1 (by decide +kernel)) rfl) (sq_step (if_ff (n1 (by decide +kernel)) rfl) (sq_step (if_ff (n1 (by decide +kernel)) rfl) (sq_step (if_ff (n1 (by decide +kernel)) rfl) (sq_step (if_ff (n1 (by decide +kernel)) rfl) ?_)))))
      rfl
    | con _ =>
      refine sq_step (as_at (ix_at rfl rfl) rfl) (sq_step (if_ff (n1 (by decide +kernel)) rfl) (sq_step (if_ff (n1 (by decide +kernel)) rfl) (sq_step (if_ff (n1 (by decide +kernel)) rfl) (sq_step (if_ff (n1 (by decide +kernel)) rfl) (sq_step (if_ff (n1 (by decide +kernel)) rfl) ?_)))))
      rfl
    | top _ =>
      refine sq_step (as_at (ix_at rfl rfl) rfl) (sq_step (if_ff (n1 (by decide +kernel)) rfl) (sq_step (if_ff (n1 (by decide +kernel)) rfl) (sq_step (if_ff (n1 (by decide +kernel)) rfl) (sq_step (if_ff (n1 (by decide +kernel)) rfl) (sq_step (if_ff (n1 (by decide +kernel)) rfl) ?_)))))
      rfl
    | use _ _ =>
      refine sq_step (as_at (ix_at rfl rfl) rfl) (sq_step (if_ff (n1 (by decide +kernel)) rfl) (sq_step (if_ff (n1 (by decide +kernel)) rfl) (sq_step (if_ff (n1 (by decide +kernel)) rfl) (sq_step (if_ff (n1 (by decide +kernel)) rfl) (sq_step (if_ff (n1 (by decide +kernel)) rfl) ?_)))))
      rfl
    | ren _ _ =>
      refine sq_step (as_at (ix_at rfl rfl) rfl) (sq_step (if_ff (n1 (by decide +kernel)) rfl) (sq_step (if_ff (n1 (by decide +kernel)) rfl) (sq_step (if_ff (n1 (by decide +kernel)) rfl) (sq_step (if_ff (n1 (by decide +kernel)) rfl) (sq_step (if_ff (n1 (by decide +kernel)) rfl) ?_)))))
      rfl
    | @ext p g hp hg =>
      have := hg.len
      refine sq_step (as_at (ix_at rfl rfl) rfl) (sq_step (if_ff (n1 (by decide +kernel)) rfl) (sq_step (if_ff (n1 (by decide +kernel)) rfl) ?_))
      refine sq_ret (if_tt (y1 (by decide +kernel)) (rt_at ?_))
      exact add2 (a := ["extend", p]) (b := g) rfl (lst_at (ix_at rfl rfl)) (by simp only [List.length_cons, List.length_nil]; omega)
    | @tru g hg =>
      have := hg.len
      refine sq_step (as_at (ix_at rfl rfl) rfl) (sq_step (if_ff (n1 (by decide +kernel)) rfl) (sq_step (if_ff (n1 (by decide +kernel)) rfl) (sq_step (if_ff (n1 (by decide +kernel)) rfl) ?_)))
      refine sq_ret (if_tt (y1 (by decide +kernel)) (rt_at ?_))
      exact add2 (a := ["truncate"]) (b := g) rfl (lst_at (ix_at rfl rfl)) (by simp only [List.length_cons, List.length_nil]; omega)
    | @uni g gs hg hl =>
      have lb := sepW_len "," 3 (g :: gs) fun w hw => (hg w hw).len
      rw [List.length_cons] at lb
      have l2 : (g ++ gs.flatMap fun h => wCm :: h).length ≤ 100 := by
        show (sepW "," (g :: gs)).length ≤ 100
        omega
      rw [List.length_append] at l2
      have sl : slD (.tup (tupS g :: gs.map tupS)) (some 1) none = some (.tup (gs.map tupS)) := by
        show some (D.tup _) = _
        rw [cut1]
      obtain ⟨y3, q⟩ := uni_loop (.tup [.str "unite", .tup ((g :: gs).map tupS)]) st (some (.str "unite")) gs (wUn :: g) none (by rw [List.length_cons]; omega)
      refine sq_step (as_at (ix_at rfl rfl) rfl) (sq_step (if_ff (n1 (by decide +kernel)) rfl) (sq_step (if_ff (n1 (by decide +kernel)) rfl) (sq_step (if_ff (n1 (by decide +kernel)) rfl) (sq_step (if_ff (n1 (by decide +kernel)) rfl) ?_))))
      refine sq_ret (if_tt (y1 (by decide +kernel)) ?_)
      refine sq_step (st1 := st) (Δ1 := [some (.tup [.str "unite", .tup ((g :: gs).map tupS)]), some (.str "unite"), some (.lst ((wUn :: g).map .str)), none]) (as_at (add2 (a := ["unite"]) (b := g) rfl (lst_at (ix_at (d := .tup (tupS g :: gs.map tupS)) (ix_at rfl rfl) (ix0 _ _))) (by simp only [List.length_cons, List.length_nil]; omega)) rfl) ?_
      refine sq_step (by
        unfold foP
        rw [show itP (slP (binP ixD (varP 0) (cstP (.int 1))) (soP (cstP (.int 1))) noP) [some (.tup [.str "unite", .tup ((g :: gs).map tupS)]), some (.str "unite"), some (.lst ((wUn :: g).map .str)), none] st = some (.ok (gs.map tupS), st) by
          have ix : ixD (.tup [.str "unite", .tup (tupS g :: gs.map tupS)]) (.int 1) = some (.tup (tupS g :: gs.map tupS)) := rfl
          simp only [gd, runD, callP, kwF, pick, rtP, sqP, asP, parP, nxP, ifP, andV, orV, notV, andT, orT, notT, truP, tstP, truD, isiP, isisP, isTys, isNP, notNP, isNon, varP, chP, cstP, bltP, binP, consP, nilP, lstP, tupP, lcP, itP, rng1P, rng2P, slP, noP, soP, intOf, negP, sosP, bd_ok, List.map, List.replicate, List.length_cons, List.length_nil, List.cons_append, List.nil_append, List.append_nil, List.getElem?_cons_zero, List.getElem?_cons_succ, List.filterMap, List.set, omap_some, obind_some, isTy, blOf, if_t, if_f, lenF, leD_i, leD_s, ltD_i, ltD_s, gtD_i, geD_i, addD_i, subD_i, mulD_i, itemsD, wipeD, Tgt.put, setAll, outR, lb0, lb1, lb2, lb3, lb4, lb5, lb6, lb7, lb8, lb9, lb10, lb11, lb12, allF, listF, tupleF, intF, eq_self_iff_true, if_true, if_false, decide_true, decide_false, Bool.true_and, Bool.false_and, Bool.and_true, Bool.and_false, Bool.not_true, Bool.not_false, Nat.sub_self, Nat.reduceAdd, Nat.reduceSub, Nat.reduceEqDiff, ix, sl], bd_ok]
        exact q) ?_
      rfl
  · have la := sub_len5 hF hn ha
    have lb := sub_len5 hF hn hb
    have lt := ht.wd.len
    refine sq_step (as_at (ix_at rfl rfl) rfl) ?_
    refine sq_ret (if_tt (y1 (by decide +kernel)) (rt_at ?_))
    exact add2 (add2 (add2 (add2 (add2 (add2 (a := kIf) rfl ((call_at (cons_at (ix_at rfl rfl) rfl)).trans (test_l ht)) (by simp only [List.length_cons, List.length_nil]; omega)) (b := kO) rfl (by simp only [List.length_cons, List.length_nil, List.length_append]; omega))
      ((call_at (cons_at (ix_at rfl rfl) rfl)).trans (hF _ _ ha st)) (by simp only [List.length_cons, List.length_nil, List.length_append]; omega)) (b := kCEO) rfl (by simp only [List.length_cons, List.length_nil, List.length_append]; omega))
      ((call_at (cons_at (ix_at rfl rfl) rfl)).trans (hF _ _ hb st)) (by simp only [List.length_cons, List.length_nil, List.length_append]; omega)) (b := kC) rfl (by simp only [List.length_cons, List.length_nil, List.length_append]; omega)
  · have la := sub_len5 hF hn ha
    refine sq_step (as_at (ix_at rfl rfl) rfl) (sq_step (if_ff (n1 (by decide +kernel)) rfl) ?_)
    refine sq_ret (if_tt (y1 (by decide +kernel)) (rt_at ?_))
    exact add2 (add2 (a := kRep i) (by
      unfold lstP
      rw [cons_at (d := .str "repeat") rfl (cons_at (blt_at (cons_at (ix_at rfl rfl) rfl) (str2_i (by omega) (by omega))) rfl), bd_ok]
      rfl) ((call_at (cons_at (ix_at rfl rfl) rfl)).trans (hF _ _ ha st)) (by simp only [List.length_cons, List.length_nil, List.length_append]; omega)) (b := kC) rfl (by simp only [List.length_cons, List.length_nil, List.length_append]; omega)
end
theorem sepW_nil {c : Str} : ∀ {ws : List (List Str)}, (∀ w ∈ ws, w ≠ []) → (sepW c ws).isEmpty = decide (ws = [])
  | [], _ => rfl
  | w :: ws, h => by
    rw [decide_eq_false (List.cons_ne_nil _ _)]
    have := h w List.mem_cons_self
    cases w with
    | nil => exact absurd rfl this
    | cons _ _ => rfl
theorem steps_l : ∀ (n k m : Nat) {ds : List D} {ws : List Str}, n < k → n ≤ 3 → m ≤ 12 → SsOf (StW n) m ds ws → ∀ st, F_l_words k [.tup ds] st = some (.ok (.lst (ws.map .str)), st)
  | n, k + 1, m, ds, ws, hk, h3, hm, h, st => by
    have lw := (h.wd fun _ _ => StW.wd).2
    have b3 : bdW n ≤ 2886 := by have := bdW_mono h3; rw [bd3] at this; exact this
    obtain ⟨ps, rfl, rfl, hp, hl⟩ := h
    have wd : ∀ p ∈ ps, Wd8 2886 p.2 := fun p hpm => by
      have := (hp p hpm).wd
      exact ⟨this.all, Nat.le_trans this.len b3, this.ne⟩
    have tkb : ∀ i, (sepW ";" ((ps.map (·.2)).take i)).length ≤ 40000 := fun i => by
      have a := sepW_len ";" 2886 ((ps.map (·.2)).take i) fun w hw => by
        obtain ⟨p, hpm, rfl⟩ := List.mem_map.mp (List.mem_of_mem_take hw)
        exact (wd p hpm).len
      have b : ((ps.map (·.2)).take i).length ≤ 12 := by rw [List.length_take, List.length_map]; omega
      have : ((ps.map (·.2)).take i).length * (2886 + 1) ≤ 12 * (2886 + 1) := Nat.mul_le_mul_right _ b
      omega
    have tka : ∀ i, ∀ x ∈ sepW ";" ((ps.map (·.2)).take i), okT x := fun i => sepW_all (by decide +kernel) _ fun w hw => by
      obtain ⟨p, hpm, rfl⟩ := List.mem_map.mp (List.mem_of_mem_take hw)
      exact (wd p hpm).all
    obtain ⟨Δ', st', q, y2, e1, e2⟩ := fo_inv (g := .one 2) (tb := asP (.one 1) (binP addD (binP addD (varP 1) (ifP (tstP (binP neD (varP 1) (lstP nilP))) (lstP (consP (cstP (.str ";")) nilP)) (lstP nilP))) (callP (F_l_step_words (F_l_words k)) (consP (varP 2) nilP))))
      (fun i Δ s' => ∃ y2 : Option D, Δ = [some (.tup (ps.map (·.1))), some (.lst ((sepW ";" ((ps.map (·.2)).take i)).map .str)), y2] ∧ s' = st)
      (ps.map (·.1)) 0 [some (.tup (ps.map (·.1))), some (.lst []), none] st ⟨none, by simp [sepW], rfl⟩ (fun i d hd Δ s' ⟨y2, e1, e2⟩ => by
        subst e1
        subst e2
        rw [List.getElem?_map] at hd
        obtain ⟨p, hpi, rfl⟩ := Option.map_eq_some_iff.mp hd
        obtain ⟨hlt, hpe⟩ := List.getElem?_eq_some_iff.mp hpi
        have hpm : p ∈ ps := by rw [← hpe]; exact List.getElem_mem hlt
        rw [Nat.zero_add]
        have tk : (ps.map (·.2)).take (i + 1) = (ps.map (·.2)).take i ++ [p.2] := by rw [List.take_add_one, List.getElem?_map, hpi]; rfl
        have b1 := tkb i
        have b2 := (wd p hpm).len
        have hs := hp p hpm
        have sw : F_l_step_words (F_l_words k) [p.1] s' = some (.ok (.lst (p.2.map .str)), s') := by
          cases n with
          | zero => exact hs.elim
          | succ n => exact step_l (n := n) (fun ds ws hh st => steps_l n k 5 (by omega) (by omega) (by decide) hh st) (by omega) hs s'
        have em := sepW_nil (c := ";") (ws := (ps.map (·.2)).take i) fun w hw => by
          obtain ⟨p, hpm, rfl⟩ := List.mem_map.mp (List.mem_of_mem_take hw)
          exact (wd p hpm).ne
        have ne := ne_nilT (tka i)
        rw [em] at ne
        refine ⟨[some (.tup (ps.map (·.1))), some (.lst ((sepW ";" ((ps.map (·.2)).take i)).map .str)), some p.1], _, s', rfl, ?_, some p.1, rfl, rfl⟩
        rw [tk, sepW_snoc]
        by_cases h0 : (ps.map (·.2)).take i = []
        · rw [if_pos h0]
          rw [h0] at ne ⊢
          refine as_at (d := .lst (p.2.map .str)) ?_ rfl
          exact add2 (a := []) (b := p.2) (add2 (a := []) (b := []) rfl (if_ff (st1 := s') (tst_at (bin_at rfl rfl (by rw [show (D.lst ((sepW ";" []).map .str)) = .lst (([] : List Str).map .str) from rfl] at ne; rw [decide_eq_true rfl] at ne; exact ne))) rfl) (by simp)) ((call_at (cons_at rfl rfl)).trans sw) (by simp only [List.length_nil]; omega)
        · rw [if_neg h0]
          rw [decide_eq_false h0] at ne
          rw [show sepW ";" ((ps.map (·.2)).take i) ++ wSm :: p.2 = (sepW ";" ((ps.map (·.2)).take i) ++ kSm) ++ p.2 by simp]
          refine as_at ?_ rfl
          exact add2 (add2 (b := kSm) rfl (if_tt (st1 := s') (tst_at (bin_at rfl rfl ne)) rfl) (by simp only [List.length_cons, List.length_nil]; omega)) ((call_at (cons_at rfl rfl)).trans sw) (by rw [List.length_append]; simp only [List.length_cons, List.length_nil]; omega))
    subst e1
    subst e2
    rw [List.length_map, Nat.zero_add, List.take_of_length_le (by rw [List.length_map]; exact Nat.le_refl _)] at q
    refine run_ret rfl ?_
    unfold d_l_words
    refine sq_step (st1 := st') (Δ1 := [some (.tup (ps.map (·.1))), some (.lst []), none]) rfl ?_
    refine sq_step (by
      unfold foP
      rw [show itP (varP 0) [some (.tup (ps.map (·.1))), some (.lst []), none] st' = some (.ok (ps.map (·.1)), st') from rfl, bd_ok]
      exact q) ?_
    rfl
/-! the texts -/
theorem join_ok {ws : List Str} (ok : ∀ x ∈ ws, okT x) (hl : ws.length ≤ 40000) : joinF (.str " ") (.lst (ws.map .str)) = some (.str (Txt.join " " ws)) := by
  have sm : (ws.map (·.length)).sum ≤ ws.length * 8 := by
    clear hl
    induction ws with
    | nil => simp
    | cons w ws ih =>
      have a := ih fun x hx => ok x (List.mem_cons_of_mem _ hx)
      have b := (ok w List.mem_cons_self).len
      rw [List.map_cons, List.sum_cons, List.length_cons, Nat.succ_mul]
      omega
  show (strsD (ws.map .str)).bind _ = _
  rw [strsD_map, obind_some, if_pos (by rw [show (" " : Str).length = 1 from rfl]; unfold big; omega)]
theorem texts_ok {n m : Nat} {ds : List D} {ws : List Str} (hn : n ≤ 3) (hm : m ≤ 12) (h : SsOf (StW n) m ds ws) (st : Sta) : F_text_of [.tup ds] st = some (.ok (.str (Txt.join " " ws)), st) ∧ F_l_text [.tup ds] st = some (.ok (.str (Txt.join " " ws)), st) ∧ (∀ x ∈ ws, okT x) ∧ ws.length ≤ 40000 := by
  obtain ⟨a, b⟩ := h.wd fun _ _ => StW.wd
  have b3 : bdW n ≤ 2886 := by have := bdW_mono hn; rw [bd3] at this; exact this
  have lb : ws.length ≤ 40000 := Nat.le_trans b (by have : m * (bdW n + 1) ≤ 12 * (2886 + 1) := Nat.mul_le_mul hm (by omega); omega)
  refine ⟨run_ret rfl (rt_at (bin_at rfl ((call_at (cons_at rfl rfl)).trans (steps_p n 8 m (by omega) hn hm h st)) (join_ok a lb))), run_ret rfl (rt_at (bin_at rfl ((call_at (cons_at rfl rfl)).trans (steps_l n 8 m (by omega) hn hm h st)) (join_ok a lb))), a, lb⟩
end Dn

set_option Elab.async false
set_option linter.all false
set_option maxRecDepth 100000
set_option maxHeartbeats 4000000
namespace Dn
open PySem PySem.Spec PyProof.Rows L2
/-! ### what is drawn -/
structure InvN (m : Nat) (ws : List Str) : Prop where
  so : ws = srtS ws
  nm : ∀ z ∈ ws, NameS z
  len : ws.length ≤ m
  nd : ws.Nodup
theorem InvN.sort {m : Nat} {ws : List Str} (nm : ∀ z ∈ ws, NameS z) (h : ws.length ≤ m) (nd : ws.Nodup) : InvN m (srtS ws) := ⟨srt_srt ws, fun z hz => nm z (srt_mem.mp hz), by rw [(srtS_perm ws).length_eq]; exact h, srt_nd nd⟩
theorem InvN.asc {m : Nat} {ws : List Str} (I : InvN m ws) : Asc ws := by
  have o := srtS_ord ws
  rw [← I.so] at o
  refine (o.and I.nd).imp fun {a b} h => ?_
  cases e : sLt a b with
  | true => rfl
  | false => exact absurd (leS_anti h.1 (of_decide_eq_false e)) h.2
theorem Grp.sub {g ws : List Str} {m : Nat} (I : InvN m ws) (h : g.Sublist ws) (h3 : g.length ≤ 3) : Grp g := ⟨fun z hz => I.nm z (h.subset hz), h3, I.asc.sublist h⟩
theorem toPys_strs (ws : List Str) : toPys (ws.map .str) = some (ws.map PyData.str) := by
  induction ws with
  | nil => rfl
  | cons w ws ih => simp only [List.map_cons, toPys, toPy, ih, Option.bind, Option.map]
theorem eq_nil_tup {g : List Str} (ok : ∀ z ∈ g, okT z) : eqD (tupS g) (.tup []) = some (.bl g.isEmpty) := by
  have cl : PyData.canLayAll0 (g.map PyData.str) = true := by
    induction g with
    | nil => rfl
    | cons w ws ih =>
      rw [List.map_cons]
      unfold PyData.canLayAll0
      rw [show PyData.canLay0 (PyData.str w) = true from (ok w List.mem_cons_self).c, ih fun z hz => ok z (List.mem_cons_of_mem _ hz)]
      rfl
  have dp : PyData.depthAll (g.map PyData.str) = 0 := by
    clear cl ok
    induction g with
    | nil => rfl
    | cons w ws ih =>
      rw [List.map_cons]
      unfold PyData.depthAll
      rw [ih]
      rfl
  have sh : shP (tupS g) = some (.tuple (g.map PyData.str)) := by
    unfold shP
    rw [show toPy (tupS g) = some (.tuple (g.map PyData.str)) by simp only [toPy, toPys_strs, Option.map], obind_some]
    refine if_pos ?_
    unfold SeqAt.shaped
    have c : (PyData.tuple (g.map PyData.str)).canLay0 = true := cl
    have d : (PyData.tuple (g.map PyData.str)).depth ≤ 64 := by
      unfold PyData.depth
      omega
    rw [c, decide_eq_true d]; rfl
  have sn : shP (.tup []) = some (.tuple []) := rfl
  unfold Dn.eqD eqB
  rw [sh, sn]
  cases g <;> rfl
theorem cut_drop (ds : List D) (i : Nat) (h : i ≤ ds.length) : cutL ds (some (i : Int)) none = ds.drop i := by
  unfold cutL
  rw [HT.sIx_none, HT.sIx_nat, Nat.min_eq_left h]
  exact List.take_of_length_le (by rw [List.length_drop]; exact Nat.le_refl _)
theorem group3 {ds : List D} : (cutL ds none (some 3)).length ≤ 3 := by
  unfold cutL
  rw [HT.sIx_none, show (some (3 : Int)) = some ((3 : Nat) : Int) from rfl, HT.sIx_nat, List.length_take]
  omega
section
variable {scr : Option (Addr × List Int)} {own : List (Nat × Cell)} {nx : Nat} {ws : List Str} {m : Nat}
theorem grp_ok (b : BagSt) (hb : okB b) (I : InvN m ws) (hm : m ≤ 12) : ∃ (g : List Str) (b' : BagSt), F_l_group [.hnd 0, .lst (ws.map .str)] ⟨some b, scr, own, nx⟩ = some (.ok (tupS g), ⟨some b', scr, own, nx⟩) ∧ Grp g ∧ okB b' := by
  have st := sort_okW ws (by have := I.len; omega)
  rw [← I.so] at st
  obtain ⟨g, b1, e1, sl, hb1⟩ := lc_drawF (scr := scr) (own := own) (nx := nx) (L := .lst (ws.map .str)) ws b [] hb (by have := I.len; rw [List.length_nil]; unfold big; omega)
  obtain ⟨g', e2, sl2⟩ := cut_sub g none (some 3)
  have l3 : g'.length ≤ 3 := by
    have := group3 (ds := g.map D.str)
    rw [e2, List.length_map] at this
    exact this
  refine ⟨g', b1, run_ret rfl ?_, .sub I (sl2.trans sl) l3, hb1⟩
  have tf : tupleF [.lst (g'.map .str)] = some (.tup (g'.map .str)) := rfl
  rw [List.nil_append] at e1
  unfold d_l_group
  simp only [gd, runD, callP, kwF, pick, rtP, sqP, asP, parP, nxP, ifP, andV, orV, notV, andT, orT, notT, truP, tstP, truD, isiP, isisP, isTys, isNP, notNP, isNon, varP, chP, cstP, bltP, binP, consP, nilP, lstP, tupP, lcP, itP, rng1P, rng2P, slP, noP, soP, intOf, negP, sosP, bd_ok, List.map, List.replicate, List.length_cons, List.length_nil, List.cons_append, List.nil_append, List.append_nil, List.getElem?_cons_zero, List.getElem?_cons_succ, List.filterMap, List.set, omap_some, obind_some, isTy, blOf, if_t, if_f, lenF, leD_i, leD_s, ltD_i, ltD_s, gtD_i, geD_i, addD_i, subD_i, mulD_i, itemsD, wipeD, Tgt.put, setAll, outR, lb0, lb1, lb2, lb3, lb4, lb5, lb6, lb7, lb8, lb9, lb10, lb11, lb12, allF, listF, tupleF, intF, eq_self_iff_true, if_true, if_false, decide_true, decide_false, Bool.true_and, Bool.false_and, Bool.and_true, Bool.and_false, Bool.not_true, Bool.not_false, Nat.sub_self, Nat.reduceAdd, Nat.reduceSub, Nat.reduceEqDiff, st, e1, slD, e2, tf]
theorem pull0 {n : Int} (r : Int) : (tstP (binP eqD (cstP (.int r)) (cstP (.int n)))) [] ⟨none, none, [], 0⟩ = some (.ok (r == n), ⟨none, none, [], 0⟩) := rfl
theorem pull_tst {Δ : Dl} {x : Option D} {b b1 : BagSt} {n k r : Int} (h : F_l_pull [.hnd 0, .int n] ⟨some b, scr, own, nx⟩ = some (.ok (.int r), ⟨some b1, scr, own, nx⟩)) : tstP (binP eqD (callP F_l_pull (consP (varP 0) (consP (cstP (.int n)) nilP))) (cstP (.int k))) (some (.hnd 0) :: Δ) ⟨some b, scr, own, nx⟩ = some (.ok (r == k), ⟨some b1, scr, own, nx⟩) :=
  tst_at (bin_at (call2 rfl rfl h) rfl (eqD_i _ _))
theorem bases_ok (b : BagSt) (hb : okB b) {g : List Str} (hg : Grp g) : ∃ (g0 : List Str) (gs : List (List Str)) (b' : BagSt), F_l_bases [.hnd 0, tupS g] ⟨some b, scr, own, nx⟩ = some (.ok (.tup ((g0 :: gs).map tupS)), ⟨some b', scr, own, nx⟩) ∧ (∀ h ∈ g0 :: gs, Grp h) ∧ gs.length ≤ 2 ∧ okB b' := by
  have e0 := eq_nil_tup hg.ok
  have gsub : ∀ h : List Str, h.Sublist g → Grp h := fun h hh => ⟨fun z hz => hg.nm z (hh.subset hz), Nat.le_trans hh.length_le hg.len, hg.asc.sublist hh⟩
  cases hg0 : g with
  | nil =>
    subst hg0
    refine ⟨[], [], b, run_ret rfl ?_, fun h hh => ?_, Nat.zero_le _, hb⟩
    · unfold d_l_bases
      exact sq_ret (if_tt (tst_at (bin_at rfl rfl e0)) rfl)
    · rw [List.mem_singleton.mp hh]; exact ⟨fun z hz => absurd hz List.not_mem_nil, Nat.zero_le _, .nil⟩
  | cons a g1 =>
    rw [← hg0]
    have hne : g.isEmpty = false := by rw [hg0]; rfl
    rw [hne] at e0
    -- the last statement
    have last : ∀ b, okB b → ∃ (g0 : List Str) (gs : List (List Str)) (b' : BagSt), (rtP (ifP (tstP (binP eqD (callP F_l_pull (consP (varP 0) (consP (cstP (.int 2)) nilP))) (cstP (.int 0)))) (tupP (consP (varP 1) nilP)) (bltP tupleF (consP (lcP (itP (varP 1)) (.one 2) yesT (tupP (consP (varP 2) nilP)) [2]) nilP)))) [some (.hnd 0), some (tupS g), none] ⟨some b, scr, own, nx⟩ = some (.ok (.rt (.tup ((g0 :: gs).map tupS))), ⟨some b', scr, own, nx⟩) ∧ (∀ h ∈ g0 :: gs, Grp h) ∧ gs.length ≤ 2 ∧ okB b' := fun b hb => by
      obtain ⟨r, b1, p1, r0, r1, hb1⟩ := pull_ok b scr own nx 2 hb (by decide) (by decide)
      cases hr : r == 0 with
      | true =>
        exact ⟨g, [], b1, rt_at (if_tt (by rw [pull_tst (x := none) p1, hr]) rfl), fun h hh => by rw [List.mem_singleton.mp hh]; exact hg, Nat.zero_le _, hb1⟩
      | false =>
        have lc := lc_map (t := .one 2) (te := tupP (consP (varP 2) nilP)) (Δ := [some (.hnd 0), some (tupS g), none]) (st := ⟨some b1, scr, own, nx⟩) (fun z : Str => D.str z) (fun z => tupS [z]) g (fun x hx => ⟨_, rfl, rfl⟩) (by have := hg.len; unfold big; omega)
        refine ⟨[a], g1.map fun z => [z], b1, rt_at (if_ff (st1 := ⟨some b1, scr, own, nx⟩) (by rw [pull_tst (x := none) p1, hr]) ?_), fun h hh => ?_, by have := hg.len; rw [hg0, List.length_cons] at this; rw [List.length_map]; omega, hb1⟩
        · refine blt_at (ds := [.lst (g.map fun z => tupS [z])]) (cons_at (by unfold lcP; rw [show itP (varP 1) [some (.hnd 0), some (tupS g), none] ⟨some b1, scr, own, nx⟩ = some (.ok (g.map .str), ⟨some b1, scr, own, nx⟩) from rfl, bd_ok]; exact lc) rfl) ?_
          show some (D.tup (g.map fun z => tupS [z])) = _
          rw [hg0, List.map_cons, List.map_cons, List.map_map]
          rfl
        · have hin : ∃ z ∈ g, h = [z] := by
            rcases List.mem_cons.mp hh with q | q
            · exact ⟨a, by rw [hg0]; exact List.mem_cons_self, q⟩
            · obtain ⟨z, hz, rfl⟩ := List.mem_map.mp q
              exact ⟨z, by rw [hg0]; exact List.mem_cons_of_mem _ hz, rfl⟩
          obtain ⟨z, hz, rfl⟩ := hin
          exact gsub _ (List.singleton_sublist.mpr hz)
    have c0 : tstP (binP eqD (varP 1) (tupP nilP)) [some (.hnd 0), some (tupS g), none] ⟨some b, scr, own, nx⟩ = some (.ok false, ⟨some b, scr, own, nx⟩) := tst_at (bin_at rfl rfl e0)
    have cl : tstP (binP eqD (bltP lenF (consP (varP 1) nilP)) (cstP (.int 3))) [some (.hnd 0), some (tupS g), none] ⟨some b, scr, own, nx⟩ = some (.ok ((g.length : Int) == 3), ⟨some b, scr, own, nx⟩) := tst_at (bin_at (blt_at (d := .int g.length) rfl (by show some (D.int ((g.map D.str).length : Nat)) = _; rw [List.length_map])) rfl (eqD_i _ _))
    by_cases h3 : g.length = 3
    · have e3 : ((g.length : Int) == 3) = true := by rw [h3]; rfl
      obtain ⟨r, b1, p1, r0, r1, hb1⟩ := pull_ok b scr own nx 2 hb (by decide) (by decide)
      cases hr : r == 0 with
      | true =>
        obtain ⟨x, y, z, rfl⟩ : ∃ x y z, g = [x, y, z] := by
          match g, h3 with
          | [x, y, z], _ => exact ⟨x, y, z, rfl⟩
        refine ⟨[x, y], [[y, z], [x, z]], b1, run_ret rfl ?_, fun h hh => ?_, Nat.le_refl _, hb1⟩
        · unfold d_l_bases
          refine sq_step (if_ff c0 rfl) ?_
          refine sq_ret (if_tt (and_t (cl.trans (by rw [e3])) ((pull_tst (x := none) p1).trans (by rw [hr]))) (rt_at ?_))
          rfl
        · have : h = [x, y] ∨ h = [y, z] ∨ h = [x, z] := by simpa using hh
          rcases this with rfl | rfl | rfl <;> exact gsub _ (by simp)
      | false =>
        obtain ⟨g0, gs, b2, e, a1, a2, hb2⟩ := last b1 hb1
        refine ⟨g0, gs, b2, run_ret rfl ?_, a1, a2, hb2⟩
        unfold d_l_bases
        refine sq_step (if_ff c0 rfl) ?_
        refine sq_step (if_ff (st1 := ⟨some b1, scr, own, nx⟩) (and_t (cl.trans (by rw [e3])) ((pull_tst (x := none) p1).trans (by rw [hr]))) rfl) ?_
        exact e
    · have e3 : ((g.length : Int) == 3) = false := by rw [Bool.eq_false_iff]; intro q; exact h3 (by have := beq_iff_eq.mp q; omega)
      obtain ⟨g0, gs, b2, e, a1, a2, hb2⟩ := last b hb
      refine ⟨g0, gs, b2, run_ret rfl ?_, a1, a2, hb2⟩
      unfold d_l_bases
      refine sq_step (if_ff c0 rfl) ?_
      refine sq_step (if_ff (st1 := ⟨some b, scr, own, nx⟩) (and_f1 (cl.trans (by rw [e3]))) rfl) ?_
      exact e
end
end Dn

set_option Elab.async false
set_option linter.all false
set_option maxRecDepth 100000
set_option maxHeartbeats 4000000
namespace Dn
open PySem PySem.Spec PyProof.Rows L2
inductive StepD (ws : List Str) (p : Str) : D → Prop
  | del {x : Str} : x ∈ ws → StepD ws p (.tup [.str "delete", .str x])
  | con {x : Str} : x ∈ ws → StepD ws p (.tup [.str "contract", .str x])
  | ren {x : Str} : x ∈ ws → StepD ws p (.tup [.str "rename", .str x, .str p])
  | dual : StepD ws p (.tup [.str "dual"])
  | ext {g : List Str} : Grp g → StepD ws p (.tup [.str "extend", .str p, tupS g])
  | top : StepD ws p (.tup [.str "top", .str p])
  | cut : StepD ws p (.tup [.str "cut"])
  | uni {g0 : List Str} {gs : List (List Str)} : (∀ h ∈ g0 :: gs, Grp h) → gs.length ≤ 2 → StepD ws p (.tup [.str "unite", .tup ((g0 :: gs).map tupS)])
  | tru {g : List Str} : Grp g → StepD ws p (.tup [.str "truncate", tupS g])
theorem StepD.pl {ws : List Str} {p : Str} {d : D} (nm : ∀ z ∈ ws, NameS z) (hp : NameS p) (h : StepD ws p d) : ∃ w, PlW d w := by
  cases h with
  | del hx => exact ⟨_, .del (nm _ hx)⟩
  | con hx => exact ⟨_, .con (nm _ hx)⟩
  | ren hx => exact ⟨_, .ren (nm _ hx) hp⟩
  | dual => exact ⟨_, .dual⟩
  | ext hg => exact ⟨_, .ext hp hg⟩
  | top => exact ⟨_, .top hp⟩
  | cut => exact ⟨_, .cut⟩
  | uni h1 h2 => exact ⟨_, .uni h1 h2⟩
  | tru hg => exact ⟨_, .tru hg⟩
section
variable {scr : Option (Addr × List Int)} {own : List (Nat × Cell)} {nx : Nat} {ws : List Str} {m : Nat}
theorem step_ok (b : BagSt) (hb : okB b) (I : InvN m ws) (hm : m ≤ 12) (p : Str) (k : Int) : ∃ (d : D) (b' : BagSt), F_l_step [.hnd 0, .lst (ws.map .str), .str p, .int k] ⟨some b, scr, own, nx⟩ = some (.ok d, ⟨some b', scr, own, nx⟩) ∧ StepD ws p d ∧ okB b' := by
  obtain ⟨r, b1, p1, r0, r1, hb1⟩ := pull_ok b scr own nx 11 hb (by decide) (by decide)
  obtain ⟨g, b2, p2, hg, hb2⟩ := grp_ok (scr := scr) (own := own) (nx := nx) b1 hb1 I hm
  let st2 : Sta := ⟨some b2, scr, own, nx⟩
  let Δ1 : Dl := [some (.hnd 0), some (.lst (ws.map .str)), some (.str p), some (.int k), some (.int r), some (tupS g), none]
  have first : parP 4 5 (consP (callP F_l_pull (consP (varP 0) (consP (cstP (.int 11)) nilP))) (consP (callP F_l_group (consP (varP 0) (consP (varP 1) nilP))) nilP)) [some (.hnd 0), some (.lst (ws.map .str)), some (.str p), some (.int k), none, none, none] ⟨some b, scr, own, nx⟩ = some (.ok (.nx Δ1), st2) := by
    unfold parP
    rw [cons_at (call2 rfl rfl p1) (cons_at (call2 rfl rfl p2) rfl), bd_ok]
    rfl
  have ne := ne_nil (ws := ws) I.nm (by have := I.len; omega)
  have tne : tstP (binP neD (varP 1) (lstP nilP)) Δ1 st2 = some (.ok (!ws.isEmpty), st2) := tst_at (bin_at rfl rfl ne)
  have tlt : tstP (binP ltD (varP 4) (cstP (.int 3))) Δ1 st2 = some (.ok (decide (r < 3)), st2) := tst_at (bin_at rfl rfl (ltD_i _ _))
  by_cases hc : r < 3 ∧ ws ≠ []
  · obtain ⟨h3, hw⟩ := hc
    have hi : ws.isEmpty = false := by cases ws with
      | nil => exact absurd rfl hw
      | cons _ _ => rfl
    obtain ⟨d, b3, hd, p3, hb3⟩ := any_lst b2 scr own nx (ws.map .str) hb2 (by rw [List.length_map]; exact List.length_pos_iff.mpr hw) (by have := I.len; rw [List.length_map]; unfold big; omega)
    obtain ⟨x, hx, rfl⟩ := List.mem_map.mp hd
    let st3 : Sta := ⟨some b3, scr, own, nx⟩
    let Δ2 : Dl := [some (.hnd 0), some (.lst (ws.map .str)), some (.str p), some (.int k), some (.int r), some (tupS g), some (.str x)]
    have hr : r = 0 ∨ r = 1 ∨ r = 2 := by omega
    have fin : ∀ e : D, ixD (.tup [.tup [.str "delete", .str x], .tup [.str "contract", .str x], .tup [.str "rename", .str x, .str p]]) (.int r) = some e → StepD ws p e → ∃ (d : D) (b' : BagSt), F_l_step [.hnd 0, .lst (ws.map .str), .str p, .int k] ⟨some b, scr, own, nx⟩ = some (.ok d, ⟨some b', scr, own, nx⟩) ∧ StepD ws p d ∧ okB b' := fun e he hs => by
      refine ⟨e, b3, run_ret rfl ?_, hs, hb3⟩
      unfold d_l_step
      refine sq_step first ?_
      refine sq_ret (if_tt (st1 := st2) (and_t (tlt.trans (by rw [decide_eq_true h3])) (tne.trans (by rw [hi]; rfl))) ?_)
      refine sq_step (st1 := st3) (Δ1 := Δ2) (as_at (call2 rfl rfl p3) rfl) ?_
      exact rt_at (bin_at rfl rfl he)
    rcases hr with rfl | rfl | rfl
    · exact fin _ rfl (.del hx)
    · exact fin _ rfl (.con hx)
    · exact fin _ rfl (.ren hx)
  · have c1 : andT (tstP (binP ltD (varP 4) (cstP (.int 3)))) (tstP (binP neD (varP 1) (lstP nilP))) Δ1 st2 = some (.ok false, st2) := by
      by_cases h3 : r < 3
      · have hw : ws = [] := Classical.byContradiction fun q => hc ⟨h3, q⟩
        refine and_t (tlt.trans (by rw [decide_eq_true h3])) (tne.trans ?_)
        rw [hw]; rfl
      · exact and_f1 (tlt.trans (by rw [decide_eq_false h3]))
    have te : ∀ j : Int, tstP (binP eqD (varP 4) (cstP (.int j))) Δ1 st2 = some (.ok (r == j), st2) := fun j => tst_at (bin_at rfl rfl (eqD_i _ _))
    have tp : ∀ i j : Int, tstP (binP inD (varP 4) (tupP (consP (cstP (.int i)) (consP (cstP (.int j)) nilP)))) Δ1 st2 = some (.ok ((i == r) || (j == r)), st2) := fun i j => tst_at (bin_at rfl rfl (in_pair _ _ _))
    have pre : ∀ {t : SDen} {R : Mo Out}, (∀ {u : SDen}, u = u → True) → t Δ1 st2 = R → sqP (ifP (andT (tstP (binP ltD (varP 4) (cstP (.int 3)))) (tstP (binP neD (varP 1) (lstP nilP)))) (sqP (asP (.one 6) (callP F_l_any (consP (varP 0) (consP (varP 1) nilP))))
    (rtP (binP ixD (tupP (consP (tupP (consP (cstP (.str "delete")) (consP (varP 6) nilP))) (consP (tupP (consP (cstP (.str "contract")) (consP (varP 6) nilP))) (consP (tupP (consP (cstP (.str "rename")) (consP (varP 6) (consP (varP 2) nilP)))) nilP)))) (varP 4)))) nxP) t Δ1 st2 = R := fun _ h => sq_step (if_ff c1 rfl) h
    by_cases q3 : r = 3
    · refine ⟨_, b2, run_ret rfl ?_, .dual, hb2⟩
      unfold d_l_step
      refine sq_step first (pre (fun _ => trivial) ?_)
      exact sq_ret (if_tt ((te 3).trans (by rw [q3]; rfl)) rfl)
    have e3 : (r == 3) = false := by rw [Bool.eq_false_iff]; intro q; exact q3 (beq_iff_eq.mp q)
    by_cases q4 : r = 4 ∨ r = 5
    · have e4 : (((4 : Int) == r) || ((5 : Int) == r)) = true := by rcases q4 with q | q <;> rw [q] <;> rfl
      refine ⟨_, b2, run_ret rfl ?_, .ext hg, hb2⟩
      unfold d_l_step
      refine sq_step first (pre (fun _ => trivial) ?_)
      refine sq_step (if_ff ((te 3).trans (by rw [e3])) rfl) ?_
      exact sq_ret (if_tt ((tp 4 5).trans (by rw [e4])) rfl)
    have e4 : (((4 : Int) == r) || ((5 : Int) == r)) = false := by
      rw [Bool.or_eq_false_iff]
      exact ⟨by rw [Bool.eq_false_iff]; intro q; exact q4 (.inl (beq_iff_eq.mp q).symm), by rw [Bool.eq_false_iff]; intro q; exact q4 (.inr (beq_iff_eq.mp q).symm)⟩
    have tk : tstP (binP gtD (varP 3) (cstP (.int 0))) Δ1 st2 = some (.ok (decide (0 < k)), st2) := tst_at (bin_at rfl rfl (gtD_i _ _))
    by_cases q6 : (r = 6 ∨ r = 7) ∧ 0 < k
    · have e6 : (((6 : Int) == r) || ((7 : Int) == r)) = true := by rcases q6.1 with q | q <;> rw [q] <;> rfl
      have c6 : andT (tstP (binP inD (varP 4) (tupP (consP (cstP (.int 6)) (consP (cstP (.int 7)) nilP))))) (tstP (binP gtD (varP 3) (cstP (.int 0)))) Δ1 st2 = some (.ok true, st2) := and_t ((tp 6 7).trans (by rw [e6])) (tk.trans (by rw [decide_eq_true q6.2]))
      rcases q6.1 with q | q
      · refine ⟨_, b2, run_ret rfl ?_, .top, hb2⟩
        unfold d_l_step
        refine sq_step first (pre (fun _ => trivial) ?_)
        refine sq_step (if_ff ((te 3).trans (by rw [e3])) rfl) (sq_step (if_ff ((tp 4 5).trans (by rw [e4])) rfl) ?_)
        exact sq_ret (if_tt c6 (rt_at (if_tt ((te 6).trans (by rw [q]; rfl)) rfl)))
      · refine ⟨_, b2, run_ret rfl ?_, .cut, hb2⟩
        unfold d_l_step
        refine sq_step first (pre (fun _ => trivial) ?_)
        refine sq_step (if_ff ((te 3).trans (by rw [e3])) rfl) (sq_step (if_ff ((tp 4 5).trans (by rw [e4])) rfl) ?_)
        exact sq_ret (if_tt c6 (rt_at (if_ff ((te 6).trans (by rw [q]; rfl)) rfl)))
    have c6 : andT (tstP (binP inD (varP 4) (tupP (consP (cstP (.int 6)) (consP (cstP (.int 7)) nilP))))) (tstP (binP gtD (varP 3) (cstP (.int 0)))) Δ1 st2 = some (.ok false, st2) := by
      by_cases q : r = 6 ∨ r = 7
      · have e6 : (((6 : Int) == r) || ((7 : Int) == r)) = true := by rcases q with q | q <;> rw [q] <;> rfl
        exact and_t ((tp 6 7).trans (by rw [e6])) (tk.trans (by rw [decide_eq_false fun z => q6 ⟨q, z⟩]))
      · have e6 : (((6 : Int) == r) || ((7 : Int) == r)) = false := by
          rw [Bool.or_eq_false_iff]
          exact ⟨by rw [Bool.eq_false_iff]; intro z; exact q (.inl (beq_iff_eq.mp z).symm), by rw [Bool.eq_false_iff]; intro z; exact q (.inr (beq_iff_eq.mp z).symm)⟩
        exact and_f1 ((tp 6 7).trans (by rw [e6]))
    cases q8 : r == 8 with
    | true =>
      obtain ⟨g0, gs, b3, p3, a1, a2, hb3⟩ := bases_ok (scr := scr) (own := own) (nx := nx) b2 hb2 hg
      refine ⟨_, b3, run_ret rfl ?_, .uni a1 a2, hb3⟩
      unfold d_l_step
      refine sq_step first (pre (fun _ => trivial) ?_)
      refine sq_step (if_ff ((te 3).trans (by rw [e3])) rfl) (sq_step (if_ff ((tp 4 5).trans (by rw [e4])) rfl) (sq_step (if_ff c6 rfl) ?_))
      refine rt_at (if_tt ((te 8).trans (by rw [q8])) ?_)
      unfold tupP
      rw [cons_at (d := .str "unite") rfl (cons_at (call2 rfl rfl p3) rfl), bd_ok]
      rfl
    | false =>
      refine ⟨_, b2, run_ret rfl ?_, .tru hg, hb2⟩
      unfold d_l_step
      refine sq_step first (pre (fun _ => trivial) ?_)
      refine sq_step (if_ff ((te 3).trans (by rw [e3])) rfl) (sq_step (if_ff ((tp 4 5).trans (by rw [e4])) rfl) (sq_step (if_ff c6 rfl) ?_))
      exact rt_at (if_ff ((te 8).trans (by rw [q8])) rfl)
end
/-! the names behind a step -/
section
variable {ws : List Str} {m : Nat} (st : Sta)
abbrev lc3 : List D := [.str "delete", .str "contract", .str "rename"]
abbrev ex3 : List D := [.str "extend", .str "top", .str "rename"]
theorem in3 (w a b c : Str) : inD (.str w) (.tup [.str a, .str b, .str c]) = some (.bl (decide (w ∈ [a, b, c]))) := in_tup w [a, b, c]
theorem not_in3 (w a b c : Str) : notInD (.str w) (.tup [.str a, .str b, .str c]) = some (.bl (!decide (w ∈ [a, b, c]))) := by
  have := in3 w a b c
  unfold inD at this
  unfold notInD
  cases h : inB (.str w) (.tup [.str a, .str b, .str c]) with
  | none => rw [h] at this; cases this
  | some v => rw [h] at this; cases this; rfl
theorem or_t1 {ta tb : TDen} {Δ : Dl} {st st1 : Sta} (h1 : ta Δ st = some (.ok true, st1)) : orT ta tb Δ st = some (.ok true, st1) := by
  unfold orT
  rw [h1, bd_ok]
  rfl
theorem or_f1 {ta tb : TDen} {Δ : Dl} {st st1 : Sta} {r : Mo Bool} (h1 : ta Δ st = some (.ok false, st1)) (h2 : tb Δ st1 = r) : orT ta tb Δ st = r := by
  unfold orT
  rw [h1, bd_ok]
  exact h2
theorem ends_gen (I : InvN m ws) (hm : m ≤ 12) {d : D} (q : Str → Bool) (add : List Str) (hadd : ∀ z ∈ add, NameS z) (hl : add.length ≤ 1) (hnd : ∀ z ∈ add, z ∉ ws)
    (hc : ∀ z ∈ ws, orT (tstP (binP notInD (binP ixD (varP 1) (cstP (.int 0))) (tupP (consP (cstP (.str "delete")) (consP (cstP (.str "contract")) (consP (cstP (.str "rename")) nilP)))))) (tstP (binP neD (varP 3) (binP ixD (varP 1) (cstP (.int 1))))) [some (.lst (ws.map .str)), some d, none, some (.str z)] st = some (.ok (q z), st))
    (ha : ∀ L : List Str, L.length ≤ 12 → ifP (tstP (binP inD (binP ixD (varP 1) (cstP (.int 0))) (tupP (consP (cstP (.str "extend")) (consP (cstP (.str "top")) (consP (cstP (.str "rename")) nilP)))))) (asP (.one 2) (binP addD (varP 2) (lstP (consP (ifP (tstP (binP eqD (binP ixD (varP 1) (cstP (.int 0))) (cstP (.str "rename")))) (binP ixD (varP 1) (cstP (.int 2))) (binP ixD (varP 1) (cstP (.int 1)))) nilP)))) nxP [some (.lst (ws.map .str)), some d, some (.lst (L.map .str)), none] st = some (.ok (.nx [some (.lst (ws.map .str)), some d, some (.lst ((L ++ add).map .str)), none]), st)) :
    ∃ ws', F_l_ends [.lst (ws.map .str), d] st = some (.ok (.lst (ws'.map .str)), st) ∧ InvN (m + 1) ws' ∧ ∀ z ∈ ws', z ∈ ws ∨ z ∈ add := by
  have lw := I.len
  have fl := List.length_filter_le q ws
  have lc := lc_filt (t := .one 3) (tt := orT (tstP (binP notInD (binP ixD (varP 1) (cstP (.int 0))) (tupP (consP (cstP (.str "delete")) (consP (cstP (.str "contract")) (consP (cstP (.str "rename")) nilP)))))) (tstP (binP neD (varP 3) (binP ixD (varP 1) (cstP (.int 1)))))) (te := varP 3) (Δ := [some (.lst (ws.map .str)), some d, none, none]) (st := st) (fun z : Str => D.str z) q (fun z => .str z) ws [] (fun z hz => ⟨_, rfl, hc z hz, fun _ => rfl⟩) (by rw [List.length_nil]; unfold big; omega)
  have so := sort_okW (ws.filter q ++ add) (by rw [List.length_append]; omega)
  refine ⟨srtS (ws.filter q ++ add), run_ret rfl ?_, .sort (fun z hz => ?_) (by rw [List.length_append]; omega) ?_, fun z hz => ?_⟩
  · unfold d_l_ends
    refine sq_step (st1 := st) (Δ1 := [some (.lst (ws.map .str)), some d, some (.lst ((ws.filter q).map .str)), none]) (as_at (d := .lst ((ws.filter q).map .str)) (by
      unfold lcP
      exact lc) rfl) ?_
    refine sq_step (ha (ws.filter q) (by omega)) ?_
    exact rt_at (blt_at (cons_at rfl rfl) so)
  · rcases List.mem_append.mp hz with h | h
    · exact I.nm z (List.mem_filter.mp h).1
    · exact hadd z h
  · refine List.nodup_append.mpr ⟨I.nd.filter _, ?_, fun a ha b hb e => hnd b hb (by rw [← e]; exact (List.mem_filter.mp ha).1)⟩
    match add, hl with
    | [], _ => exact List.nodup_nil
    | [x], _ => exact List.nodup_cons.mpr ⟨List.not_mem_nil, List.nodup_nil⟩
  · rcases List.mem_append.mp (srt_mem.mp hz) with h | h
    · exact .inl (List.mem_filter.mp h).1
    · exact .inr h
theorem ends_ok (I : InvN m ws) (hm : m ≤ 12) {p : Str} (hp : NameS p) (np : p ∉ ws) {d : D} (h : StepD ws p d) : ∃ ws', F_l_ends [.lst (ws.map .str), d] st = some (.ok (.lst (ws'.map .str)), st) ∧ InvN (m + 1) ws' ∧ ∀ z ∈ ws', z ∈ ws ∨ z = p := by
  suffices h : ∃ (ws' add : List Str), F_l_ends [.lst (ws.map .str), d] st = some (.ok (.lst (ws'.map .str)), st) ∧ InvN (m + 1) ws' ∧ (∀ z ∈ ws', z ∈ ws ∨ z ∈ add) ∧ ∀ z ∈ add, z = p by
    obtain ⟨ws', add, a, b, c, e⟩ := h
    exact ⟨ws', a, b, fun z hz => (c z hz).imp id (e z)⟩
  have up1 : ∀ z ∈ [p], z = p := fun z hz => List.mem_singleton.mp hz
  have up0 : ∀ z ∈ ([] : List Str), z = p := fun z hz => absurd hz List.not_mem_nil
  have ap1 : ∀ z ∈ [p], z ∉ ws := fun z hz => by rw [List.mem_singleton.mp hz]; exact np
  have ap0 : ∀ z ∈ ([] : List Str), z ∉ ws := fun z hz => absurd hz List.not_mem_nil
  -- a step that takes a name out
  have out : ∀ (w x : Str) (rest : List D) (z : Str), d = .tup (.str w :: .str x :: rest) → decide (w ∈ (["delete", "contract", "rename"] : List Str)) = true → x ∈ ws → z ∈ ws →
      orT (tstP (binP notInD (binP ixD (varP 1) (cstP (.int 0))) (tupP (consP (cstP (.str "delete")) (consP (cstP (.str "contract")) (consP (cstP (.str "rename")) nilP)))))) (tstP (binP neD (varP 3) (binP ixD (varP 1) (cstP (.int 1))))) [some (.lst (ws.map .str)), some d, none, some (.str z)] st = some (.ok (decide (z ≠ x)), st) := fun w x rest z e hw hx hz => by
    subst e
    refine or_f1 (st1 := st) (tst_at (bin_at (ix_at rfl (ix0 _ _)) rfl (by rw [not_in3, hw]; rfl))) ?_
    exact tst_at (bin_at rfl (ix_at rfl (ix1 _ _ _)) (neD_name (I.nm z hz) (I.nm x hx)))
  have stay : ∀ (w : Str) (rest : List D) (z : Str), d = .tup (.str w :: rest) → decide (w ∈ (["delete", "contract", "rename"] : List Str)) = false →
      orT (tstP (binP notInD (binP ixD (varP 1) (cstP (.int 0))) (tupP (consP (cstP (.str "delete")) (consP (cstP (.str "contract")) (consP (cstP (.str "rename")) nilP)))))) (tstP (binP neD (varP 3) (binP ixD (varP 1) (cstP (.int 1))))) [some (.lst (ws.map .str)), some d, none, some (.str z)] st = some (.ok true, st) := fun w rest z e hw => by
    subst e
    exact or_t1 (tst_at (bin_at (ix_at rfl (ix0 _ _)) rfl (by rw [not_in3, hw]; rfl)))
  have none_ : ∀ (w : Str) (rest : List D) (L : List Str), d = .tup (.str w :: rest) → decide (w ∈ (["extend", "top", "rename"] : List Str)) = false → ifP (tstP (binP inD (binP ixD (varP 1) (cstP (.int 0))) (tupP (consP (cstP (.str "extend")) (consP (cstP (.str "top")) (consP (cstP (.str "rename")) nilP)))))) (asP (.one 2) (binP addD (varP 2) (lstP (consP (ifP (tstP (binP eqD (binP ixD (varP 1) (cstP (.int 0))) (cstP (.str "rename")))) (binP ixD (varP 1) (cstP (.int 2))) (binP ixD (varP 1) (cstP (.int 1)))) nilP)))) nxP [some (.lst (ws.map .str)), some d, some (.lst (L.map .str)), none] st = some (.ok (.nx [some (.lst (ws.map .str)), some d, some (.lst ((L ++ []).map .str)), none]), st) := fun w rest L e hw => by
    subst e
    rw [List.append_nil]
    exact if_ff (st1 := st) (tst_at (bin_at (ix_at rfl (ix0 _ _)) rfl (by rw [in3, hw]))) rfl
  have some_ : ∀ (w : Str) (rest : List D) (L : List Str), L.length ≤ 12 → d = .tup (.str w :: rest) → decide (w ∈ (["extend", "top", "rename"] : List Str)) = true → (ifP (tstP (binP eqD (binP ixD (varP 1) (cstP (.int 0))) (cstP (.str "rename")))) (binP ixD (varP 1) (cstP (.int 2))) (binP ixD (varP 1) (cstP (.int 1)))) [some (.lst (ws.map .str)), some d, some (.lst (L.map .str)), none] st = some (.ok (.str p), st) →
      ifP (tstP (binP inD (binP ixD (varP 1) (cstP (.int 0))) (tupP (consP (cstP (.str "extend")) (consP (cstP (.str "top")) (consP (cstP (.str "rename")) nilP)))))) (asP (.one 2) (binP addD (varP 2) (lstP (consP (ifP (tstP (binP eqD (binP ixD (varP 1) (cstP (.int 0))) (cstP (.str "rename")))) (binP ixD (varP 1) (cstP (.int 2))) (binP ixD (varP 1) (cstP (.int 1)))) nilP)))) nxP [some (.lst (ws.map .str)), some d, some (.lst (L.map .str)), none] st = some (.ok (.nx [some (.lst (ws.map .str)), some d, some (.lst ((L ++ [p]).map .str)), none]), st) := fun w rest L hL e hw hv => by
    subst e
    refine if_tt (st1 := st) (tst_at (bin_at (ix_at rfl (ix0 _ _)) rfl (by rw [in3, hw]))) ?_
    refine as_at (add2 (a := L) (b := [p]) rfl ?_ (by simp only [List.length_cons, List.length_nil]; omega)) rfl
    unfold lstP
    rw [cons_at hv rfl, bd_ok]
    rfl
  have pn : ∀ z ∈ [p], NameS z := fun z hz => by rw [List.mem_singleton.mp hz]; exact hp
  have nn : ∀ z ∈ ([] : List Str), NameS z := fun z hz => absurd hz List.not_mem_nil
  have t0 : ∀ (Δ : Dl) (a : Option D) (w : Str) (rest : List D), chN w "rename" = true → tstP (binP eqD (binP ixD (varP 1) (cstP (.int 0))) (cstP (.str "rename"))) (a :: some (.tup (.str w :: rest)) :: Δ) st = some (.ok false, st) := fun Δ a w rest hw => tst_at (bin_at (ix_at rfl (ix0 _ _)) rfl (eq_n hw))
  cases h with
  | @del x hx =>
    obtain ⟨ws', a, b, c⟩ := ends_gen st I hm (fun z => decide (z ≠ x)) [] nn (Nat.zero_le _) ap0 (fun z hz => out _ x _ z rfl (by decide +kernel) hx hz) fun L hL => none_ _ _ L rfl (by decide +kernel)
    exact ⟨ws', [], a, b, c, up0⟩
  | @con x hx =>
    obtain ⟨ws', a, b, c⟩ := ends_gen st I hm (fun z => decide (z ≠ x)) [] nn (Nat.zero_le _) ap0 (fun z hz => out _ x _ z rfl (by decide +kernel) hx hz) fun L hL => none_ _ _ L rfl (by decide +kernel)
    exact ⟨ws', [], a, b, c, up0⟩
  | @ren x hx =>
    obtain ⟨ws', a, b, c⟩ := ends_gen st I hm (fun z => decide (z ≠ x)) [p] pn (Nat.le_refl _) ap1 (fun z hz => out _ x _ z rfl (by decide +kernel) hx hz) fun L hL => some_ _ _ L hL rfl (by decide +kernel) (if_tt (st1 := st) (tst_at (bin_at (ix_at rfl rfl) rfl (eq_y (by decide +kernel)))) (ix_at rfl rfl))
    exact ⟨ws', [p], a, b, c, up1⟩
  | dual =>
    obtain ⟨ws', a, b, c⟩ := ends_gen st I hm (fun _ => true) [] nn (Nat.zero_le _) ap0 (fun z hz => stay _ _ z rfl (by decide +kernel)) fun L hL => none_ _ _ L rfl (by decide +kernel)
    exact ⟨ws', [], a, b, c, up0⟩
  | cut =>
    obtain ⟨ws', a, b, c⟩ := ends_gen st I hm (fun _ => true) [] nn (Nat.zero_le _) ap0 (fun z hz => stay _ _ z rfl (by decide +kernel)) fun L hL => none_ _ _ L rfl (by decide +kernel)
    exact ⟨ws', [], a, b, c, up0⟩
  | uni _ _ =>
    obtain ⟨ws', a, b, c⟩ := ends_gen st I hm (fun _ => true) [] nn (Nat.zero_le _) ap0 (fun z hz => stay _ _ z rfl (by decide +kernel)) fun L hL => none_ _ _ L rfl (by decide +kernel)
    exact ⟨ws', [], a, b, c, up0⟩
  | tru _ =>
    obtain ⟨ws', a, b, c⟩ := ends_gen st I hm (fun _ => true) [] nn (Nat.zero_le _) ap0 (fun z hz => stay _ _ z rfl (by decide +kernel)) fun L hL => none_ _ _ L rfl (by decide +kernel)
    exact ⟨ws', [], a, b, c, up0⟩
  | ext _ =>
    obtain ⟨ws', a, b, c⟩ := ends_gen st I hm (fun _ => true) [p] pn (Nat.le_refl _) ap1 (fun z hz => stay _ _ z rfl (by decide +kernel)) fun L hL => some_ _ _ L hL rfl (by decide +kernel) (if_ff (st1 := st) (t0 _ _ _ _ (by decide +kernel)) (ix_at rfl rfl))
    exact ⟨ws', [p], a, b, c, up1⟩
  | top =>
    obtain ⟨ws', a, b, c⟩ := ends_gen st I hm (fun _ => true) [p] pn (Nat.le_refl _) ap1 (fun z hz => stay _ _ z rfl (by decide +kernel)) fun L hL => some_ _ _ L hL rfl (by decide +kernel) (if_ff (st1 := st) (t0 _ _ _ _ (by decide +kernel)) (ix_at rfl rfl))
    exact ⟨ws', [p], a, b, c, up1⟩
end
end Dn

set_option Elab.async false
set_option linter.all false
set_option maxRecDepth 100000
set_option maxHeartbeats 4000000
namespace Dn
open PySem PySem.Spec PyProof.Rows L2
/-! ### lists of steps, drawn -/
def Ls (R : D → List Str → Prop) (m : Nat) (ds : List D) : Prop := ds.length ≤ m ∧ ∀ d ∈ ds, ∃ w, R d w
section
variable {R R' : D → List Str → Prop} {m k : Nat} {as bs : List D}
theorem Ls.app (h : Ls R m as) (g : Ls R k bs) : Ls R (m + k) (as ++ bs) := ⟨by rw [List.length_append]; exact Nat.add_le_add h.1 g.1, fun d hd => by
  rcases List.mem_append.mp hd with q | q
  · exact h.2 d q
  · exact g.2 d q⟩
theorem Ls.nil : Ls R m [] := ⟨Nat.zero_le _, fun d hd => absurd hd List.not_mem_nil⟩
theorem Ls.one {d : D} {w : List Str} (h : R d w) : Ls R 1 [d] := ⟨Nat.le_refl _, fun e he => ⟨w, by rw [List.mem_singleton.mp he]; exact h⟩⟩
theorem Ls.mono (h : Ls R m as) (hk : m ≤ k) : Ls R k as := ⟨Nat.le_trans h.1 hk, h.2⟩
theorem Ls.weak (h : Ls R m as) (hR : ∀ d w, R d w → ∃ w', R' d w') : Ls R' m as := ⟨h.1, fun d hd => by
  obtain ⟨w, hw⟩ := h.2 d hd
  exact hR d w hw⟩
theorem Ls.ss (h : Ls R m as) : ∃ ws, SsOf R m as ws := by
  obtain ⟨h1, h2⟩ := h
  have key : ∀ ds : List D, (∀ d ∈ ds, ∃ w, R d w) → ∃ ps : List (D × List Str), ds = ps.map (·.1) ∧ ∀ p ∈ ps, R p.1 p.2 := by
    intro ds
    induction ds with
    | nil => intro _; exact ⟨[], rfl, fun p hp => absurd hp List.not_mem_nil⟩
    | cons d ds ih =>
      intro h
      obtain ⟨ps, e, hp⟩ := ih fun x hx => h x (List.mem_cons_of_mem _ hx)
      obtain ⟨w, hw⟩ := h d List.mem_cons_self
      refine ⟨(d, w) :: ps, by rw [e]; rfl, fun p hp' => ?_⟩
      rcases List.mem_cons.mp hp' with q | q
      · rw [q]; exact hw
      · exact hp p q
  obtain ⟨ps, e, hp⟩ := key as h2
  exact ⟨_, ps, e, rfl, hp, by rw [e, List.length_map] at h1; exact h1⟩
end
theorem st1_of {n : Nat} {d : D} {w : List Str} (h : PlW d w) : StW (n + 1) d w := .inl h
theorem stW_mono : ∀ {n : Nat} {d : D} {w : List Str}, StW n d w → StW (n + 1) d w
  | n + 1, d, w, .inl h => .inl h
  | n + 1, d, w, .inr (.inl ⟨t, tw, as, wa, bs, wb, ht, ha, hb, e1, e2⟩) => .inr (.inl ⟨t, tw, as, wa, bs, wb, ht, by
    obtain ⟨ps, a, b, c, l⟩ := ha
    exact ⟨ps, a, b, fun p hp => stW_mono (c p hp), l⟩, by
    obtain ⟨ps, a, b, c, l⟩ := hb
    exact ⟨ps, a, b, fun p hp => stW_mono (c p hp), l⟩, e1, e2⟩)
  | n + 1, d, w, .inr (.inr ⟨i, as, wa, h0, h1, ha, e1, e2⟩) => .inr (.inr ⟨i, as, wa, h0, h1, by
    obtain ⟨ps, a, b, c, l⟩ := ha
    exact ⟨ps, a, b, fun p hp => stW_mono (c p hp), l⟩, e1, e2⟩)
theorem Ls.up {n m : Nat} {as : List D} (h : Ls (StW n) m as) : Ls (StW (n + 1)) m as := h.weak fun d w hw => ⟨w, stW_mono hw⟩
theorem Ls.of_pl {n m : Nat} {as : List D} (h : Ls PlW m as) : Ls (StW (n + 1)) m as := h.weak fun d w hw => ⟨w, .inl hw⟩
theorem ls_if {n : Nat} {t : D} {tw : List Str} {as bs : List D} (ht : TeW t tw) (ha : Ls (StW n) 5 as) (hb : Ls (StW n) 5 bs) : Ls (StW (n + 1)) 1 [.tup [.str "if", t, .tup as, .tup bs]] := by
  obtain ⟨wa, qa⟩ := ha.ss
  obtain ⟨wb, qb⟩ := hb.ss
  exact .one (.inr (.inl ⟨t, tw, as, wa, bs, wb, ht, qa, qb, rfl, rfl⟩))
theorem ls_rep {n : Nat} {i : Int} {as : List D} (h0 : 1 ≤ i) (h1 : i < 5) (ha : Ls (StW n) 5 as) : Ls (StW (n + 1)) 1 [.tup [.str "repeat", .int i, .tup as]] := by
  obtain ⟨wa, qa⟩ := ha.ss
  exact .one (.inr (.inr ⟨i, as, wa, h0, h1, qa, rfl, rfl⟩))
theorem addT {as bs : List D} (h : as.length + bs.length ≤ big) : addD (.tup as) (.tup bs) = some (.tup (as ++ bs)) := if_pos h
/-- something is put to a list of one's own -/
theorem app_at {to te : EDen} {Δ : Dl} {st : Sta} {n : Nat} {ds : List D} {d : D} (h1 : to Δ st = some (.ok (.hnd n), st)) (h2 : te Δ st = some (.ok d, st)) (lk : st.look n = some (.lst ds)) (hl : ds.length < big) : exP (appP to te) Δ st = some (.ok (.nx Δ), st.put n (.lst (ds ++ [d]))) := by
  unfold exP appP
  rw [h1, bd_ok]
  simp only
  rw [lk]
  simp only
  rw [h2, bd_ok, lk]
  simp only
  rw [if_pos hl, bd_ok]
theorem tupH_at {te : EDen} {Δ : Dl} {st : Sta} {n : Nat} {ds : List D} (h1 : te Δ st = some (.ok (.hnd n), st)) (lk : st.look n = some (.lst ds)) : tupHP te Δ st = some (.ok (.tup ds), st) := by
  unfold tupHP
  rw [h1, bd_ok]
  show (match st.look n with | some (.lst ds) => some ds | _ => none).map _ = _
  rw [lk]
  rfl
theorem tup_at {tr : ADen} {Δ : Dl} {st st1 : Sta} {ds : List D} (h : tr Δ st = some (.ok ds, st1)) (hl : ds.length ≤ big := by simp only [List.length_cons, List.length_nil]; decide) : tupP tr Δ st = some (.ok (.tup ds), st1) := by
  unfold tupP
  rw [h, bd_ok, if_pos hl]
theorem int2_b (v : Bool) : int2F [.bl v] = some (.int (if v then 1 else 0)) := rfl
section
variable {scr : Option (Addr × List Int)} {own : List (Nat × Cell)} {nx : Nat} {ws : List Str} {m : Nat}
/-- the looks are fewer by one, or as many -/
theorem looks_ok {p : Str} {d : D} (h : StepD ws p d) (x0 x1 x2 x4 x5 x6 : Option D) (k : Int) (st : Sta) : ∃ k' : Int, binP subD (varP 3) (bltP int2F (consP (binP inD (binP ixD (varP 7) (cstP (.int 0))) (tupP (consP (cstP (.str "top")) (consP (cstP (.str "cut")) nilP)))) nilP)) [x0, x1, x2, some (.int k), x4, x5, x6, some d] st = some (.ok (.int k'), st) := by
  have key : ∀ (w : Str) (rest : List D), d = .tup (.str w :: rest) → ∃ k' : Int, binP subD (varP 3) (bltP int2F (consP (binP inD (binP ixD (varP 7) (cstP (.int 0))) (tupP (consP (cstP (.str "top")) (consP (cstP (.str "cut")) nilP)))) nilP)) [x0, x1, x2, some (.int k), x4, x5, x6, some d] st = some (.ok (.int k'), st) := fun w rest e => by
    subst e
    have i2 : inD (.str w) (.tup [.str "top", .str "cut"]) = some (.bl (decide (w ∈ (["top", "cut"] : List Str)))) := in_tup w ["top", "cut"]
    exact ⟨_, bin_at rfl (blt_at (cons_at (bin_at (ix_at rfl (ix0 _ _)) rfl i2) rfl) (int2_b _)) (subD_i _ _)⟩
  cases h <;> exact key _ _ rfl
theorem InvN.sorts (I : InvN m ws) (hm : m ≤ 12) : sortF [.lst (ws.map .str)] = some (.lst (ws.map .str)) := by
  have so := sort_okW ws (by have := I.len; omega)
  rwa [← I.so] at so
theorem plain_ok (b : BagSt) (hb : okB b) (I : InvN m ws) {ws0 : List Str} (so : sortF [.lst (ws0.map .str)] = some (.lst (ws.map .str))) {fs : List Str} (hf : ∀ z ∈ fs, NameS z) (fnd : fs.Nodup) (dis : ∀ z ∈ fs, z ∉ ws) (hm : m + fs.length ≤ 12) (k : Int) : ∃ (ds : List D) (ws' : List Str) (k' : Int) (b' : BagSt) (own' : List (Nat × Cell)) (nx' : Nat),
    F_l_plain [.hnd 0, .lst (ws0.map .str), .lst (fs.map .str), .int k] ⟨some b, scr, own, nx⟩ = some (.ok (.tup [.tup ds, .lst (ws'.map .str), .int k']), ⟨some b', scr, own', nx'⟩) ∧ Ls PlW fs.length ds ∧ InvN (m + fs.length) ws' ∧ (∀ z ∈ ws', z ∈ ws ∨ z ∈ fs) ∧ okB b' := by
  let st : Sta := ⟨some b, scr, own, nx⟩
  let nn := nx + 1
  let st1 : Sta := st.neu (.lst [])
  have lk1 : st1.look nn = some (.lst []) := look_neu st _
  obtain ⟨Δ', s', q, k', b', ds, ws', y6, y7, eΔ, hsc, hbg, hlk, hls, hI, hin, hb'⟩ := fo_inv (g := .one 6) (tb := sqP (asP (.one 7) (callP F_l_step (consP (varP 0) (consP (varP 5) (consP (varP 6) (consP (varP 3) nilP))))))
    (sqP (asP (.one 3) (binP subD (varP 3) (bltP int2F (consP (binP inD (binP ixD (varP 7) (cstP (.int 0))) (tupP (consP (cstP (.str "top")) (consP (cstP (.str "cut")) nilP)))) nilP))))
    (sqP (asP (.one 5) (callP F_l_ends (consP (varP 5) (consP (varP 7) nilP))))
    (exP (appP (varP 4) (varP 7))))))
    (fun i Δ s' => ∃ (k' : Int) (b' : BagSt) (ds : List D) (ws' : List Str) (y6 y7 : Option D), Δ = [some (.hnd 0), some (.lst (ws0.map .str)), some (.lst (fs.map .str)), some (.int k'), some (.hnd nn), some (.lst (ws'.map .str)), y6, y7] ∧ s'.scr = scr ∧ s'.bag = some b' ∧ s'.look nn = some (.lst ds) ∧ Ls PlW i ds ∧ InvN (m + i) ws' ∧ (∀ z ∈ ws', z ∈ ws ∨ z ∈ fs.take i) ∧ okB b')
    (fs.map .str) 0 [some (.hnd 0), some (.lst (ws0.map .str)), some (.lst (fs.map .str)), some (.int k), some (.hnd nn), some (.lst (ws.map .str)), none, none] st1 ⟨k, b, [], ws, none, none, rfl, rfl, rfl, lk1, .nil, I, fun z hz => .inl hz, hb⟩ (fun i d hd Δ s' ⟨k', b', ds, ws', y6, y7, eΔ, hsc, hbg, hlk, hls, hI, hin, hb'⟩ => by
      subst eΔ
      rw [List.getElem?_map] at hd
      obtain ⟨p, hpi, rfl⟩ := Option.map_eq_some_iff.mp hd
      obtain ⟨hi, hpe⟩ := List.getElem?_eq_some_iff.mp hpi
      have hp : NameS p := hf p (by rw [← hpe]; exact List.getElem_mem hi)
      rw [Nat.zero_add] at hI hls hin ⊢
      have tk : fs.take (i + 1) = fs.take i ++ [p] := by rw [List.take_add_one, hpi]; rfl
      have np : p ∉ ws' := fun z => by
        rcases hin p z with z | z
        · exact dis p (by rw [← hpe]; exact List.getElem_mem hi) z
        · have nd2 := fnd.sublist (List.take_sublist (i + 1) fs)
          rw [tk] at nd2
          exact (List.nodup_append.mp nd2).2.2 p z p (List.mem_singleton.mpr rfl) rfl
      obtain ⟨bag0, scr0, own0, nx0⟩ := s'
      simp only at hsc hbg
      subst hsc
      subst hbg
      obtain ⟨d, b2, e2, hd2, hb2⟩ := step_ok (scr := scr0) (own := own0) (nx := nx0) b' hb' hI (by omega) p k'
      obtain ⟨k2, ek⟩ := looks_ok hd2 (some (.hnd 0)) (some (.lst (ws0.map .str))) (some (.lst (fs.map .str))) (some (.hnd nn)) (some (.lst (ws'.map .str))) (some (.str p)) k' ⟨some b2, scr0, own0, nx0⟩
      obtain ⟨ws2, ew, hI2, hin2⟩ := ends_ok ⟨some b2, scr0, own0, nx0⟩ hI (by omega) hp np hd2
      obtain ⟨w, hw⟩ := hd2.pl hI.nm hp
      have lk2 : Sta.look ⟨some b2, scr0, own0, nx0⟩ nn = some (.lst ds) := hlk
      have hls2 : Ls PlW (i + 1) (ds ++ [d]) := hls.app (.one hw)
      refine ⟨[some (.hnd 0), some (.lst (ws0.map .str)), some (.lst (fs.map .str)), some (.int k'), some (.hnd nn), some (.lst (ws'.map .str)), some (.str p), y7], [some (.hnd 0), some (.lst (ws0.map .str)), some (.lst (fs.map .str)), some (.int k2), some (.hnd nn), some (.lst (ws2.map .str)), some (.str p), some d], Sta.put ⟨some b2, scr0, own0, nx0⟩ nn (.lst (ds ++ [d])), rfl, ?_, k2, b2, ds ++ [d], ws2, some (.str p), some d, rfl, rfl, rfl, look_put _ _ _, hls2, hI2, fun z hz => by
        rw [tk]
        rcases hin2 z hz with q | q
        · exact (hin z q).imp id (List.mem_append_left _)
        · exact .inr (by rw [q]; exact List.mem_append_right _ (List.mem_singleton.mpr rfl)), hb2⟩
      refine sq_step (st1 := ⟨some b2, scr0, own0, nx0⟩) (Δ1 := [some (.hnd 0), some (.lst (ws0.map .str)), some (.lst (fs.map .str)), some (.int k'), some (.hnd nn), some (.lst (ws'.map .str)), some (.str p), some d]) (as_at ((call_at (cons_at rfl (cons_at rfl (cons_at rfl (cons_at rfl rfl))))).trans e2) rfl) ?_
      refine sq_step (st1 := ⟨some b2, scr0, own0, nx0⟩) (Δ1 := [some (.hnd 0), some (.lst (ws0.map .str)), some (.lst (fs.map .str)), some (.int k2), some (.hnd nn), some (.lst (ws'.map .str)), some (.str p), some d]) (as_at ek rfl) ?_
      refine sq_step (st1 := ⟨some b2, scr0, own0, nx0⟩) (Δ1 := [some (.hnd 0), some (.lst (ws0.map .str)), some (.lst (fs.map .str)), some (.int k2), some (.hnd nn), some (.lst (ws2.map .str)), some (.str p), some d]) (as_at (call2 rfl rfl ew) rfl) ?_
      exact app_at rfl rfl lk2 (by have := hls.1; unfold big; omega))
  subst eΔ
  rw [List.length_map, Nat.zero_add] at hls hI hin
  rw [List.take_length] at hin
  obtain ⟨bag0, scr0, own0, nx0⟩ := s'
  simp only at hsc hbg
  subst hsc
  subst hbg
  refine ⟨ds, ws', k', b', own0, nx0, run_ret rfl ?_, hls, hI, hin, hb'⟩
  unfold d_l_plain
  refine sq_step (st1 := st1) (Δ1 := [some (.hnd 0), some (.lst (ws0.map .str)), some (.lst (fs.map .str)), some (.int k), some (.hnd nn), some (.lst (ws.map .str)), none, none]) (by
    unfold parP
    rw [cons_at (d := .hnd nn) (st1 := st1) rfl (cons_at (blt_at (cons_at rfl rfl) so) rfl), bd_ok]
    rfl) ?_
  refine sq_step (by
    unfold foP
    exact q) ?_
  exact rt_at (tup_at (cons_at (tupH_at rfl hlk) (cons_at rfl (cons_at rfl rfl))))
theorem test_ok (b : BagSt) (hb : okB b) (I : InvN m ws) (hm : m ≤ 12) (k : Int) : ∃ (t : D) (tw : List Str) (b' : BagSt), F_l_test [.hnd 0, .lst (ws.map .str), .int k] ⟨some b, scr, own, nx⟩ = some (.ok t, ⟨some b', scr, own, nx⟩) ∧ TeW t tw ∧ okB b' := by
  obtain ⟨r, b1, p1, r0, r1, hb1⟩ := pull_ok b scr own nx 4 hb (by decide) (by decide)
  obtain ⟨g, b2, p2, hg, hb2⟩ := grp_ok (scr := scr) (own := own) (nx := nx) b1 hb1 I hm
  let st2 : Sta := ⟨some b2, scr, own, nx⟩
  let Δ1 : Dl := [some (.hnd 0), some (.lst (ws.map .str)), some (.int k), some (.int r), some (tupS g)]
  have first : parP 3 4 (consP (callP F_l_pull (consP (varP 0) (consP (cstP (.int 4)) nilP))) (consP (callP F_l_group (consP (varP 0) (consP (varP 1) nilP))) nilP)) [some (.hnd 0), some (.lst (ws.map .str)), some (.int k), none, none] ⟨some b, scr, own, nx⟩ = some (.ok (.nx Δ1), st2) := by
    unfold parP
    rw [cons_at (call2 rfl rfl p1) (cons_at (call2 rfl rfl p2) rfl), bd_ok]
    rfl
  have ne := ne_nil (ws := ws) I.nm (by have := I.len; omega)
  have te : ∀ j : Int, tstP (binP eqD (varP 3) (cstP (.int j))) Δ1 st2 = some (.ok (r == j), st2) := fun j => tst_at (bin_at rfl rfl (eqD_i _ _))
  have tk : tstP (binP gtD (varP 2) (cstP (.int 0))) Δ1 st2 = some (.ok (decide (0 < k)), st2) := tst_at (bin_at rfl rfl (gtD_i _ _))
  have tne : tstP (binP neD (varP 1) (lstP nilP)) Δ1 st2 = some (.ok (!ws.isEmpty), st2) := tst_at (bin_at rfl rfl ne)
  by_cases h0 : r = 0 ∧ 0 < k
  · refine ⟨_, _, b2, run_ret rfl ?_, .whole, hb2⟩
    unfold d_l_test
    refine sq_step first ?_
    exact sq_ret (if_tt (and_t ((te 0).trans (by rw [h0.1]; rfl)) (tk.trans (by rw [decide_eq_true h0.2]))) rfl)
  have c0 : andT (tstP (binP eqD (varP 3) (cstP (.int 0)))) (tstP (binP gtD (varP 2) (cstP (.int 0)))) Δ1 st2 = some (.ok false, st2) := by
    by_cases q : r = 0
    · exact and_t ((te 0).trans (by rw [q]; rfl)) (tk.trans (by rw [decide_eq_false fun z => h0 ⟨q, z⟩]))
    · exact and_f1 ((te 0).trans (by rw [show (r == 0) = false by rw [Bool.eq_false_iff]; intro z; exact q (beq_iff_eq.mp z)]))
  by_cases h1 : r = 1 ∧ ws ≠ []
  · obtain ⟨h1, hw⟩ := h1
    have hi : ws.isEmpty = false := by cases ws with
      | nil => exact absurd rfl hw
      | cons _ _ => rfl
    obtain ⟨d, b3, hd, p3, hb3⟩ := any_lst b2 scr own nx (ws.map .str) hb2 (by rw [List.length_map]; exact List.length_pos_iff.mpr hw) (by have := I.len; rw [List.length_map]; unfold big; omega)
    obtain ⟨x, hx, rfl⟩ := List.mem_map.mp hd
    refine ⟨_, _, b3, run_ret rfl ?_, .spans hg (I.nm x hx), hb3⟩
    unfold d_l_test
    refine sq_step first (sq_step (if_ff c0 rfl) ?_)
    refine rt_at (if_tt (and_t ((te 1).trans (by rw [h1]; rfl)) (tne.trans (by rw [hi]; rfl))) ?_)
    exact tup_at (cons_at rfl (cons_at rfl (cons_at (call2 rfl rfl p3) rfl)))
  have c1 : andT (tstP (binP eqD (varP 3) (cstP (.int 1)))) (tstP (binP neD (varP 1) (lstP nilP))) Δ1 st2 = some (.ok false, st2) := by
    by_cases q : r = 1
    · have hw : ws = [] := Classical.byContradiction fun z => h1 ⟨q, z⟩
      exact and_t ((te 1).trans (by rw [q]; rfl)) (tne.trans (by rw [hw]; rfl))
    · exact and_f1 ((te 1).trans (by rw [show (r == 1) = false by rw [Bool.eq_false_iff]; intro z; exact q (beq_iff_eq.mp z)]))
  obtain ⟨j, b3, p3, j0, j1, hb3⟩ := pull_ok b2 scr own nx 4 hb2 (by decide) (by decide)
  refine ⟨_, _, b3, run_ret rfl ?_, .rank hg j0 (by omega), hb3⟩
  unfold d_l_test
  refine sq_step first (sq_step (if_ff c0 rfl) ?_)
  refine rt_at (if_ff c1 ?_)
  exact tup_at (cons_at rfl (cons_at rfl (cons_at (call2 rfl rfl p3) rfl)))
theorem still_ok (b : BagSt) (hb : okB b) (I : InvN m ws) (hm : m ≤ 12) (k : Int) : ∃ (ds : List D) (k' : Int) (b' : BagSt) (own' : List (Nat × Cell)) (nx' : Nat),
    F_l_still [.hnd 0, .lst (ws.map .str), .int k] ⟨some b, scr, own, nx⟩ = some (.ok (.tup [.tup ds, .int k']), ⟨some b', scr, own', nx'⟩) ∧ Ls PlW 2 ds ∧ okB b' := by
  let st : Sta := ⟨some b, scr, own, nx⟩
  let nn := nx + 1
  let st1 : Sta := st.neu (.lst [])
  have lk1 : st1.look nn = some (.lst []) := look_neu st _
  obtain ⟨r, b1, p1, r0, r1, hb1⟩ := pull_ok b scr ((nn, .lst []) :: own) nn 3 hb (by decide) (by decide)
  obtain ⟨R, eR⟩ : ∃ R : Nat, r = R := ⟨r.toNat, by omega⟩
  subst eR
  have lk2 : Sta.look ⟨some b1, scr, (nn, .lst []) :: own, nn⟩ nn = some (.lst []) := lk1
  have rg := rngN' R (by omega)
  obtain ⟨Δ', s', q, k', b', ds, y4, y5, y6, y7, eΔ, hsc, hbg, hlk, hls, hb'⟩ := fo_inv (g := .one 4) (tb := sqP (parP 5 6 (consP (callP F_l_pull (consP (varP 0) (consP (cstP (.int 3)) nilP))) (consP (callP F_l_group (consP (varP 0) (consP (varP 1) nilP))) nilP)))
    (sqP (asP (.one 7) (ifP (tstP (binP eqD (varP 5) (cstP (.int 0)))) (tupP (consP (cstP (.str "truncate")) (consP (varP 6) nilP))) (tupP (consP (cstP (.str "unite")) (consP (callP F_l_bases (consP (varP 0) (consP (varP 6) nilP))) nilP)))))
    (sqP (ifP (andT (tstP (binP eqD (varP 5) (cstP (.int 2)))) (tstP (binP gtD (varP 2) (cstP (.int 0))))) (parP 7 2 (consP (tupP (consP (cstP (.str "cut")) nilP)) (consP (binP subD (varP 2) (cstP (.int 1))) nilP))) nxP)
    (exP (appP (varP 3) (varP 7))))))
    (fun i Δ s' => ∃ (k' : Int) (b' : BagSt) (ds : List D) (y4 y5 y6 y7 : Option D), Δ = [some (.hnd 0), some (.lst (ws.map .str)), some (.int k'), some (.hnd nn), y4, y5, y6, y7] ∧ s'.scr = scr ∧ s'.bag = some b' ∧ s'.look nn = some (.lst ds) ∧ Ls PlW i ds ∧ okB b')
    ((List.range R).map fun k => D.int (k : Nat)) 0 [some (.hnd 0), some (.lst (ws.map .str)), some (.int k), some (.hnd nn), none, none, none, none] ⟨some b1, scr, (nn, .lst []) :: own, nn⟩ ⟨k, b1, [], none, none, none, none, rfl, rfl, rfl, lk2, .nil, hb1⟩ (fun i d hd Δ s' ⟨k', b', ds, y4, y5, y6, y7, eΔ, hsc, hbg, hlk, hls, hb'⟩ => by
      subst eΔ
      rw [Nat.zero_add] at hls ⊢
      have hi : i < R := by
        obtain ⟨h, _⟩ := List.getElem?_eq_some_iff.mp hd
        rw [List.length_map, List.length_range] at h
        exact h
      obtain ⟨bag0, scr0, own0, nx0⟩ := s'
      simp only at hsc hbg
      subst hsc
      subst hbg
      obtain ⟨w, b2, p2, w0, w1, hb2⟩ := pull_ok b' scr0 own0 nx0 3 hb' (by decide) (by decide)
      obtain ⟨g, b3, p3, hg, hb3⟩ := grp_ok (scr := scr0) (own := own0) (nx := nx0) b2 hb2 I hm
      let Δ1 : Dl := [some (.hnd 0), some (.lst (ws.map .str)), some (.int k'), some (.hnd nn), some d, some (.int w), some (tupS g), y7]
      have first : parP 5 6 (consP (callP F_l_pull (consP (varP 0) (consP (cstP (.int 3)) nilP))) (consP (callP F_l_group (consP (varP 0) (consP (varP 1) nilP))) nilP)) [some (.hnd 0), some (.lst (ws.map .str)), some (.int k'), some (.hnd nn), some d, y5, y6, y7] ⟨some b', scr0, own0, nx0⟩ = some (.ok (.nx Δ1), ⟨some b3, scr0, own0, nx0⟩) := by
        unfold parP
        rw [cons_at (call2 rfl rfl p2) (cons_at (call2 rfl rfl p3) rfl), bd_ok]
        rfl
      obtain ⟨e, we, b4, he, hwe, hb4⟩ : ∃ (e : D) (we : List Str) (b4 : BagSt), ifP (tstP (binP eqD (varP 5) (cstP (.int 0)))) (tupP (consP (cstP (.str "truncate")) (consP (varP 6) nilP))) (tupP (consP (cstP (.str "unite")) (consP (callP F_l_bases (consP (varP 0) (consP (varP 6) nilP))) nilP))) Δ1 ⟨some b3, scr0, own0, nx0⟩ = some (.ok e, ⟨some b4, scr0, own0, nx0⟩) ∧ PlW e we ∧ okB b4 := by
        have t0 : tstP (binP eqD (varP 5) (cstP (.int 0))) Δ1 ⟨some b3, scr0, own0, nx0⟩ = some (.ok (w == 0), ⟨some b3, scr0, own0, nx0⟩) := tst_at (bin_at rfl rfl (eqD_i _ _))
        cases hw : w == 0 with
        | true => exact ⟨_, _, b3, if_tt (t0.trans (by rw [hw])) rfl, .tru hg, hb3⟩
        | false =>
          obtain ⟨g0, gs, b4, p4, a1, a2, hb4⟩ := bases_ok (scr := scr0) (own := own0) (nx := nx0) b3 hb3 hg
          exact ⟨_, _, b4, if_ff (t0.trans (by rw [hw])) (tup_at (cons_at rfl (cons_at (call2 rfl rfl p4) rfl))), .uni a1 a2, hb4⟩
      let s4 : Sta := ⟨some b4, scr0, own0, nx0⟩
      have lk4 : s4.look nn = some (.lst ds) := hlk
      let Δ2 : Dl := [some (.hnd 0), some (.lst (ws.map .str)), some (.int k'), some (.hnd nn), some d, some (.int w), some (tupS g), some e]
      have t2 : tstP (binP eqD (varP 5) (cstP (.int 2))) Δ2 s4 = some (.ok (w == 2), s4) := tst_at (bin_at rfl rfl (eqD_i _ _))
      have tk : tstP (binP gtD (varP 2) (cstP (.int 0))) Δ2 s4 = some (.ok (decide (0 < k')), s4) := tst_at (bin_at rfl rfl (gtD_i _ _))
      have big5 : ds.length < big := by have := hls.1; unfold big; omega
      by_cases hc : w = 2 ∧ 0 < k'
      · refine ⟨[some (.hnd 0), some (.lst (ws.map .str)), some (.int k'), some (.hnd nn), some d, y5, y6, y7], [some (.hnd 0), some (.lst (ws.map .str)), some (.int (k' - 1)), some (.hnd nn), some d, some (.int w), some (tupS g), some (.tup [.str "cut"])], s4.put nn (.lst (ds ++ [.tup [.str "cut"]])), rfl, ?_, k' - 1, b4, ds ++ [.tup [.str "cut"]], some d, some (.int w), some (tupS g), _, rfl, rfl, rfl, look_put _ _ _, hls.app (.one .cut), hb4⟩
        refine sq_step first ?_
        refine sq_step (st1 := s4) (Δ1 := Δ2) (as_at he rfl) ?_
        refine sq_step (st1 := s4) (Δ1 := [some (.hnd 0), some (.lst (ws.map .str)), some (.int (k' - 1)), some (.hnd nn), some d, some (.int w), some (tupS g), some (.tup [.str "cut"])]) (if_tt (and_t (t2.trans (by rw [hc.1]; rfl)) (tk.trans (by rw [decide_eq_true hc.2]))) rfl) ?_
        exact app_at rfl rfl lk4 big5
      · refine ⟨[some (.hnd 0), some (.lst (ws.map .str)), some (.int k'), some (.hnd nn), some d, y5, y6, y7], Δ2, s4.put nn (.lst (ds ++ [e])), rfl, ?_, k', b4, ds ++ [e], some d, some (.int w), some (tupS g), some e, rfl, rfl, rfl, look_put _ _ _, hls.app (.one hwe), hb4⟩
        refine sq_step first ?_
        refine sq_step (st1 := s4) (Δ1 := Δ2) (as_at he rfl) ?_
        refine sq_step (st1 := s4) (Δ1 := Δ2) (if_ff (by
          by_cases q : w = 2
          · exact and_t (t2.trans (by rw [q]; rfl)) (tk.trans (by rw [decide_eq_false fun z => hc ⟨q, z⟩]))
          · exact and_f1 (t2.trans (by rw [show (w == 2) = false by rw [Bool.eq_false_iff]; intro z; exact q (beq_iff_eq.mp z)]))) rfl) ?_
        exact app_at rfl rfl lk4 big5)
  subst eΔ
  rw [List.length_map, List.length_range, Nat.zero_add] at hls
  obtain ⟨bag0, scr0, own0, nx0⟩ := s'
  simp only at hsc hbg
  subst hsc
  subst hbg
  refine ⟨ds, k', b', own0, nx0, run_ret rfl ?_, hls.mono (by omega), hb'⟩
  unfold d_l_still
  refine sq_step (st1 := st1) (Δ1 := [some (.hnd 0), some (.lst (ws.map .str)), some (.int k), some (.hnd nn), none, none, none, none]) (as_at (d := .hnd nn) (st1 := st1) rfl rfl) ?_
  refine sq_step (by
    unfold foP
    rw [rng1_at (ds := [.int (R : Nat)]) (st1 := ⟨some b1, scr0, (nn, .lst []) :: own, nn⟩) (cons_at (call2 rfl rfl p1) rfl) rg, bd_ok]
    exact q) ?_
  exact rt_at (tup_at (cons_at (tupH_at rfl hlk) (cons_at rfl rfl)))
end
end Dn

set_option Elab.async false
set_option linter.all false
set_option maxRecDepth 100000
set_option maxHeartbeats 4000000
namespace Dn
open PySem PySem.Spec PyProof.Rows L2
abbrev uses3 : List Str := ["a", "zyxwvu", "use"]
theorem eq_some {n m : Nat} {a b : D} (ha : Pl n a) (hb : Pl m b) (hn : n ≤ 64) (hm : m ≤ 64) : ∃ v, eqD a b = some (.bl v) := by
  obtain ⟨p, h1, h2⟩ := ha.sh hn
  obtain ⟨q, g1, g2⟩ := hb.sh hm
  exact ⟨PyData.eqv p q, by unfold Dn.eqD eqB; rw [h1, g1]; rfl⟩
theorem pl_txt {n : Nat} {x : Str} (h : okT x) : Pl n (.str x) := .str h.c (Nat.le_trans h.len (by decide))
theorem pl_grp {n : Nat} {g : List Str} (h : Grp g) : Pl (n + 1) (tupS g) := (pl_names h.nm (by have := h.len; omega)).2
theorem TeW.pl {t : D} {tw : List Str} (h : TeW t tw) : Pl 2 t := by
  cases h with
  | whole => exact .tup (fun x hx => by rw [List.mem_singleton.mp hx]; exact pl_txt (by decide +kernel)) (by simp only [List.length_cons, List.length_nil]; decide)
  | rank g _ _ =>
    refine .tup (fun x hx => ?_) (by simp only [List.length_cons, List.length_nil]; decide)
    rcases List.mem_cons.mp hx with rfl | hx
    · exact pl_txt (by decide +kernel)
    rcases List.mem_cons.mp hx with rfl | hx
    · exact pl_grp g
    rw [List.mem_singleton.mp hx]
    exact .int _
  | spans g hz =>
    refine .tup (fun x hx => ?_) (by simp only [List.length_cons, List.length_nil]; decide)
    rcases List.mem_cons.mp hx with rfl | hx
    · exact pl_txt (by decide +kernel)
    rcases List.mem_cons.mp hx with rfl | hx
    · exact pl_grp g
    rw [List.mem_singleton.mp hx]
    exact pl_txt (okT_name hz)
theorem TeW.eqw {t : D} {tw : List Str} (h : TeW t tw) : ∃ v, eqD t (.tup [.str "whole"]) = some (.bl v) := eq_some h.pl TeW.whole.pl (by decide) (by decide)
/-- a pair or a triple is taken apart -/
theorem put2 {i j : Nat} {x y : D} {Δ : Dl} : (Tgt.tup [i, j]).put (.tup [x, y]) Δ = some ((Δ.set i (some x)).set j (some y)) := rfl
theorem put3 {i j l : Nat} {x y z : D} {Δ : Dl} : (Tgt.tup [i, j, l]).put (.tup [x, y, z]) Δ = some (((Δ.set i (some x)).set j (some y)).set l (some z)) := rfl
theorem call3' {F : FDen} {ta tb tc : EDen} {Δ : Dl} {s0 s1 s2 s3 s4 : Sta} {x y z r : D} (h1 : ta Δ s0 = some (.ok x, s1)) (h2 : tb Δ s1 = some (.ok y, s2)) (h3 : tc Δ s2 = some (.ok z, s3)) (h : F [x, y, z] s3 = some (.ok r, s4)) : callP F (consP ta (consP tb (consP tc nilP))) Δ s0 = some (.ok r, s4) := (call_at (cons_at h1 (cons_at h2 (cons_at h3 rfl)))).trans h
theorem call4 {F : FDen} {ta tb tc td : EDen} {Δ : Dl} {s0 s1 s2 s3 s4 s5 : Sta} {x y z u r : D} (h1 : ta Δ s0 = some (.ok x, s1)) (h2 : tb Δ s1 = some (.ok y, s2)) (h3 : tc Δ s2 = some (.ok z, s3)) (h4 : td Δ s3 = some (.ok u, s4)) (h : F [x, y, z, u] s4 = some (.ok r, s5)) : callP F (consP ta (consP tb (consP tc (consP td nilP)))) Δ s0 = some (.ok r, s5) := (call_at (cons_at h1 (cons_at h2 (cons_at h3 (cons_at h4 rfl))))).trans h
def ifB : SDen := (ifP (tstP (binP eqD (callP F_l_pull (consP (varP 0) (consP (cstP (.int 2)) nilP))) (cstP (.int 0)))) (sqP (asP (.one 8) (callP F_l_test (consP (varP 0) (consP (varP 6) (consP (varP 3) nilP)))))
    (sqP (asP (.one 3) (binP subD (varP 3) (bltP int2F (consP (binP eqD (varP 8) (tupP (consP (cstP (.str "whole")) nilP))) nilP))))
    (sqP (asP (.tup [9, 3]) (callP F_l_still (consP (varP 0) (consP (varP 6) (consP (varP 3) nilP)))))
    (sqP (asP (.tup [10, 3]) (callP F_l_still (consP (varP 0) (consP (varP 6) (consP (varP 3) nilP)))))
    (asP (.one 5) (binP addD (varP 5) (tupP (consP (tupP (consP (cstP (.str "if")) (consP (varP 8) (consP (varP 9) (consP (varP 10) nilP))))) nilP)))))))) nxP)
def repB : SDen := (ifP (tstP (binP eqD (callP F_l_pull (consP (varP 0) (consP (cstP (.int 4)) nilP))) (cstP (.int 0)))) (asP (.one 5) (binP addD (varP 5) (tupP (consP (tupP (consP (cstP (.str "repeat")) (consP (binP addD (cstP (.int 1)) (callP F_l_pull (consP (varP 0) (consP (cstP (.int 3)) nilP)))) (consP (binP ixD (callP F_l_still (consP (varP 0) (consP (varP 6) (consP (cstP (.int 0)) nilP)))) (cstP (.int 0))) nilP)))) nilP)))) nxP)
theorem body_parts : d_l_body = (sqP (asP (.one 4) (callP F_l_pull (consP (varP 0) (consP (binP addD (bltP lenF (consP (varP 2) nilP)) (cstP (.int 1))) nilP))))
    (sqP (asP (.tup [5, 6, 3]) (callP F_l_plain (consP (varP 0) (consP (varP 1) (consP (slP (varP 2) noP (soP (varP 4))) (consP (varP 3) nilP))))))
    (sqP ifB (sqP repB
    (sqP (asP (.tup [7, 6, 3]) (callP F_l_plain (consP (varP 0) (consP (varP 6) (consP (slP (varP 2) (soP (varP 4)) noP) (consP (varP 3) nilP))))))
    (rtP (tupP (consP (binP addD (varP 5) (varP 7)) (consP (varP 6) nilP)))))))))  := rfl
section
variable {scr : Option (Addr × List Int)} {own : List (Nat × Cell)} {nx : Nat} {ws : List Str} {m : Nat}
theorem ifB_ok (b : BagSt) (hb : okB b) (I : InvN m ws) (hm : m ≤ 12) (x1 x2 x4 x7 x8 x9 x10 : Option D) (k : Int) (ds : List D) {q : Nat} (hq : q ≤ 100) (L : Ls (StW 2) q ds) :
    ∃ (k' : Int) (ds' : List D) (y8 y9 y10 : Option D) (b' : BagSt) (own' : List (Nat × Cell)) (nx' : Nat), ifB [some (.hnd 0), x1, x2, some (.int k), x4, some (.tup ds), some (.lst (ws.map .str)), x7, x8, x9, x10] ⟨some b, scr, own, nx⟩ = some (.ok (.nx [some (.hnd 0), x1, x2, some (.int k'), x4, some (.tup ds'), some (.lst (ws.map .str)), x7, y8, y9, y10]), ⟨some b', scr, own', nx'⟩) ∧ Ls (StW 2) (q + 1) ds' ∧ okB b' := by
  obtain ⟨r, b1, p1, r0, r1, hb1⟩ := pull_ok b scr own nx 2 hb (by decide) (by decide)
  cases hr : r == 0 with
  | false => exact ⟨k, ds, x8, x9, x10, b1, own, nx, if_ff ((pull_tst (x := none) p1).trans (by rw [hr])) rfl, L.mono (Nat.le_succ _), hb1⟩
  | true =>
    obtain ⟨t, tw, b2, p2, ht, hb2⟩ := test_ok (scr := scr) (own := own) (nx := nx) b1 hb1 I hm k
    obtain ⟨v, hv⟩ := ht.eqw
    obtain ⟨as, k3, b3, own3, nx3, p3, La, hb3⟩ := still_ok (scr := scr) (own := own) (nx := nx) b2 hb2 I hm (k - if v then 1 else 0)
    obtain ⟨bs, k4, b4, own4, nx4, p4, Lb, hb4⟩ := still_ok (scr := scr) (own := own3) (nx := nx3) b3 hb3 I hm k3
    have new : Ls (StW 2) 1 [.tup [.str "if", t, .tup as, .tup bs]] := ls_if (n := 1) ht ((La.of_pl (n := 0)).mono (by decide)) ((Lb.of_pl (n := 0)).mono (by decide))
    refine ⟨k4, ds ++ [.tup [.str "if", t, .tup as, .tup bs]], some t, some (.tup as), some (.tup bs), b4, own4, nx4, ?_, L.app new, hb4⟩
    refine if_tt ((pull_tst (x := none) p1).trans (by rw [hr])) ?_
    refine sq_step (as_at (call3' rfl rfl rfl p2) rfl) ?_
    refine sq_step (as_at (bin_at rfl (blt_at (cons_at (bin_at rfl rfl hv) rfl) (int2_b v)) (subD_i _ _)) rfl) ?_
    refine sq_step (as_at (call3' rfl rfl rfl p3) put2) ?_
    refine sq_step (as_at (call3' rfl rfl rfl p4) put2) ?_
    exact as_at (bin_at rfl (tup_at (cons_at (tup_at (cons_at rfl (cons_at rfl (cons_at rfl (cons_at rfl rfl))))) rfl)) (addT (by have := L.1; rw [List.length_singleton]; unfold big; omega))) rfl
theorem repB_ok (b : BagSt) (hb : okB b) (I : InvN m ws) (hm : m ≤ 12) (x1 x2 x3 x4 x7 x8 x9 x10 : Option D) (ds : List D) {q : Nat} (hq : q ≤ 100) (L : Ls (StW 2) q ds) :
    ∃ (ds' : List D) (b' : BagSt) (own' : List (Nat × Cell)) (nx' : Nat), repB [some (.hnd 0), x1, x2, x3, x4, some (.tup ds), some (.lst (ws.map .str)), x7, x8, x9, x10] ⟨some b, scr, own, nx⟩ = some (.ok (.nx [some (.hnd 0), x1, x2, x3, x4, some (.tup ds'), some (.lst (ws.map .str)), x7, x8, x9, x10]), ⟨some b', scr, own', nx'⟩) ∧ Ls (StW 2) (q + 1) ds' ∧ okB b' := by
  obtain ⟨r, b1, p1, r0, r1, hb1⟩ := pull_ok b scr own nx 4 hb (by decide) (by decide)
  cases hr : r == 0 with
  | false => exact ⟨ds, b1, own, nx, if_ff ((pull_tst (x := none) p1).trans (by rw [hr])) rfl, L.mono (Nat.le_succ _), hb1⟩
  | true =>
    obtain ⟨i, b2, p2, i0, i1, hb2⟩ := pull_ok b1 scr own nx 3 hb1 (by decide) (by decide)
    obtain ⟨as, k3, b3, own3, nx3, p3, La, hb3⟩ := still_ok (scr := scr) (own := own) (nx := nx) b2 hb2 I hm 0
    have new : Ls (StW 2) 1 [.tup [.str "repeat", .int (1 + i), .tup as]] := ls_rep (n := 1) (by omega) (by omega) ((La.of_pl (n := 0)).mono (by decide))
    refine ⟨ds ++ [.tup [.str "repeat", .int (1 + i), .tup as]], b3, own3, nx3, ?_, L.app new, hb3⟩
    refine if_tt ((pull_tst (x := none) p1).trans (by rw [hr])) ?_
    exact as_at (bin_at rfl (tup_at (cons_at (tup_at (cons_at rfl (cons_at (bin_at rfl (call2 rfl rfl p2) (addD_i _ _)) (cons_at (ix_at (call3' rfl rfl rfl p3) (ix0 _ _)) rfl)))) rfl)) (addT (by have := L.1; rw [List.length_singleton]; unfold big; omega))) rfl
theorem body_ok (b : BagSt) (hb : okB b) (I : InvN m ws) {ws0 : List Str} (so : sortF [.lst (ws0.map .str)] = some (.lst (ws.map .str))) {fs : List Str} (hf : ∀ z ∈ fs, NameS z) (fnd : fs.Nodup) (dis : ∀ z ∈ fs, z ∉ ws) (hm : m + fs.length ≤ 12) (k : Int) : ∃ (ds : List D) (ws' : List Str) (b' : BagSt) (own' : List (Nat × Cell)) (nx' : Nat),
    F_l_body [.hnd 0, .lst (ws0.map .str), .lst (fs.map .str), .int k] ⟨some b, scr, own, nx⟩ = some (.ok (.tup [.tup ds, .lst (ws'.map .str)]), ⟨some b', scr, own', nx'⟩) ∧ Ls (StW 2) (fs.length + 2) ds ∧ InvN (m + fs.length) ws' ∧ okB b' := by
  obtain ⟨a, b1, p1, a0, a1, hb1⟩ := pull_ok b scr own nx ((fs.length : Int) + 1) hb (by omega) (by omega)
  obtain ⟨n, rfl⟩ : ∃ n : Nat, a = n := ⟨a.toNat, by omega⟩
  have hn : n ≤ fs.length := by omega
  have tk : cutL (fs.map D.str) none (some (n : Int)) = (fs.take n).map .str := by rw [cut_take _ _ (by rw [List.length_map]; exact hn), List.map_take]
  have dr : cutL (fs.map D.str) (some (n : Int)) none = (fs.drop n).map .str := by rw [cut_drop _ _ (by rw [List.length_map]; exact hn), List.map_drop]
  have lt : (fs.take n).length = n := by rw [List.length_take]; omega
  have ld : (fs.drop n).length = fs.length - n := List.length_drop
  have tdr : (fs.take n ++ fs.drop n).Nodup := by rw [List.take_append_drop]; exact fnd
  obtain ⟨ds1, ws1, k1, b2, own2, nx2, p2, L1, I1, in1, hb2⟩ := plain_ok (scr := scr) (own := own) (nx := nx) b1 hb1 I so (fs := fs.take n) (fun z hz => hf z (List.mem_of_mem_take hz)) (fnd.sublist (List.take_sublist _ _)) (fun z hz => dis z (List.mem_of_mem_take hz)) (by omega) k
  rw [lt] at L1 I1
  obtain ⟨k3, ds3, y8, y9, y10, b3, own3, nx3, p3, L3, hb3⟩ := ifB_ok (scr := scr) (own := own2) (nx := nx2) b2 hb2 I1 (by omega) (some (.lst (ws0.map .str))) (some (.lst (fs.map .str))) (some (.int (n : Nat))) none none none none k1 ds1 (q := n) (by omega) (L1.of_pl (n := 1))
  obtain ⟨ds4, b4, own4, nx4, p4, L4, hb4⟩ := repB_ok (scr := scr) (own := own3) (nx := nx3) b3 hb3 I1 (by omega) (some (.lst (ws0.map .str))) (some (.lst (fs.map .str))) (some (.int k3)) (some (.int (n : Nat))) none y8 y9 y10 ds3 (q := n + 1) (by omega) L3
  obtain ⟨ds5, ws5, k5, b5, own5, nx5, p5, L5, I5, in5, hb5⟩ := plain_ok (scr := scr) (own := own4) (nx := nx4) b4 hb4 I1 (I1.sorts (by omega)) (fs := fs.drop n) (fun z hz => hf z (List.mem_of_mem_drop hz)) (fnd.sublist (List.drop_sublist _ _)) (fun z hz hw => by
    rcases in1 z hw with q | q
    · exact dis z (List.mem_of_mem_drop hz) q
    · exact (List.nodup_append.mp tdr).2.2 z q z hz rfl) (by omega) k3
  rw [ld] at L5 I5
  refine ⟨ds4 ++ ds5, ws5, b5, own5, nx5, run_ret rfl ?_, (L4.app (L5.of_pl (n := 1))).mono (by omega), by rw [show m + fs.length = m + n + (fs.length - n) by omega]; exact I5, hb5⟩
  rw [body_parts]
  refine sq_step (st1 := ⟨some b1, scr, own, nx⟩) (Δ1 := [some (.hnd 0), some (.lst (ws0.map .str)), some (.lst (fs.map .str)), some (.int k), some (.int (n : Nat)), none, none, none, none, none, none]) (as_at (call2 rfl (bin_at (blt_at (d := .int fs.length) (cons_at rfl rfl) (by show some (D.int ((fs.map D.str).length : Nat)) = _; rw [List.length_map])) rfl (addD_i _ _)) p1) rfl) ?_
  refine sq_step (st1 := ⟨some b2, scr, own2, nx2⟩) (Δ1 := [some (.hnd 0), some (.lst (ws0.map .str)), some (.lst (fs.map .str)), some (.int k1), some (.int (n : Nat)), some (.tup ds1), some (.lst (ws1.map .str)), none, none, none, none]) (as_at (call4 rfl rfl (by
    simp only [gd, runD, callP, kwF, pick, rtP, sqP, asP, parP, nxP, ifP, andV, orV, notV, andT, orT, notT, truP, tstP, truD, isiP, isisP, isTys, isNP, notNP, isNon, varP, chP, cstP, bltP, binP, consP, nilP, lstP, tupP, lcP, itP, rng1P, rng2P, slP, noP, soP, intOf, negP, sosP, bd_ok, List.map, List.replicate, List.length_cons, List.length_nil, List.cons_append, List.nil_append, List.append_nil, List.getElem?_cons_zero, List.getElem?_cons_succ, List.filterMap, List.set, omap_some, obind_some, isTy, blOf, if_t, if_f, lenF, leD_i, leD_s, ltD_i, ltD_s, gtD_i, geD_i, addD_i, subD_i, mulD_i, itemsD, wipeD, Tgt.put, setAll, outR, lb0, lb1, lb2, lb3, lb4, lb5, lb6, lb7, lb8, lb9, lb10, lb11, lb12, allF, listF, tupleF, intF, eq_self_iff_true, if_true, if_false, decide_true, decide_false, Bool.true_and, Bool.false_and, Bool.and_true, Bool.and_false, Bool.not_true, Bool.not_false, Nat.sub_self, Nat.reduceAdd, Nat.reduceSub, Nat.reduceEqDiff, slD, tk]) rfl p2) put3) ?_
  refine sq_step p3 (sq_step p4 ?_)
  refine sq_step (st1 := ⟨some b5, scr, own5, nx5⟩) (Δ1 := [some (.hnd 0), some (.lst (ws0.map .str)), some (.lst (fs.map .str)), some (.int k5), some (.int (n : Nat)), some (.tup ds4), some (.lst (ws5.map .str)), some (.tup ds5), y8, y9, y10]) (as_at (call4 rfl rfl (by
    simp only [gd, runD, callP, kwF, pick, rtP, sqP, asP, parP, nxP, ifP, andV, orV, notV, andT, orT, notT, truP, tstP, truD, isiP, isisP, isTys, isNP, notNP, isNon, varP, chP, cstP, bltP, binP, consP, nilP, lstP, tupP, lcP, itP, rng1P, rng2P, slP, noP, soP, intOf, negP, sosP, bd_ok, List.map, List.replicate, List.length_cons, List.length_nil, List.cons_append, List.nil_append, List.append_nil, List.getElem?_cons_zero, List.getElem?_cons_succ, List.filterMap, List.set, omap_some, obind_some, isTy, blOf, if_t, if_f, lenF, leD_i, leD_s, ltD_i, ltD_s, gtD_i, geD_i, addD_i, subD_i, mulD_i, itemsD, wipeD, Tgt.put, setAll, outR, lb0, lb1, lb2, lb3, lb4, lb5, lb6, lb7, lb8, lb9, lb10, lb11, lb12, allF, listF, tupleF, intF, eq_self_iff_true, if_true, if_false, decide_true, decide_false, Bool.true_and, Bool.false_and, Bool.and_true, Bool.and_false, Bool.not_true, Bool.not_false, Nat.sub_self, Nat.reduceAdd, Nat.reduceSub, Nat.reduceEqDiff, slD, dr]) rfl p5) put3) ?_
  exact rt_at (tup_at (cons_at (bin_at rfl rfl (addT (by have := L4.1; have := L5.1; unfold big; omega))) (cons_at rfl rfl)))
/-- all steps -/
theorem all_ok (b : BagSt) (hb : okB b) (I : InvN m ws) {ws0 : List Str} (so0 : sortF [.lst (ws0.map .str)] = some (.lst (ws.map .str))) {fs : List Str} (hf : ∀ z ∈ fs, NameS z) (fnd : fs.Nodup) (dis : ∀ z ∈ fs, z ∉ ws) (h3 : fs.length ≤ 3) (hm : m ≤ 9) : ∃ (ds : List D) (b' : BagSt) (own' : List (Nat × Cell)) (nx' : Nat),
    F_l_all_steps [.hnd 0, .lst (ws0.map .str), .lst (fs.map .str)] ⟨some b, scr, own, nx⟩ = some (.ok (.tup ds), ⟨some b', scr, own', nx'⟩) ∧ Ls (StW 3) 12 ds ∧ okB b' := by
  obtain ⟨ds1, ws1, b1, own1, nx1, p1, L1, I1, hb1⟩ := body_ok (scr := scr) (own := own) (nx := nx) b hb I so0 hf fnd dis (by omega) 9
  obtain ⟨so, k2, b2, own2, nx2, p2, L2, hb2⟩ := still_ok (scr := scr) (own := own1) (nx := nx1) b1 hb1 I1 (by omega) 9
  obtain ⟨i, b3, p3, i0, i1, hb3⟩ := pull_ok b2 scr own2 nx2 4 hb2 (by decide) (by decide)
  obtain ⟨d, b4, hd, p4, hb4⟩ := any_lst b3 scr own2 nx2 (uses3.map .str) hb3 (by decide) (by decide)
  obtain ⟨u, hu, rfl⟩ := List.mem_map.mp hd
  have hu3 : u = "a" ∨ u = "zyxwvu" ∨ u = "use" := by simpa [uses3] using hu
  have hut : okT u := by rcases hu3 with rfl | rfl | rfl <;> decide +kernel
  have hu6 : okN 6 u = true := by rcases hu3 with rfl | rfl | rfl <;> decide +kernel
  let inner : D := .tup [.str "repeat", .int (1 + i), .tup (so ++ [.tup [.str "use", .str u]])]
  have Li : Ls (StW 2) 1 [inner] := ls_rep (n := 1) (by omega) (by omega) (((L2.app (.one (.use hut hu6))).of_pl (n := 0)).mono (by decide))
  obtain ⟨r, b5, p5, r0, r1, hb5⟩ := pull_ok b4 scr own2 nx2 2 hb4 (by decide) (by decide)
  have l1 := L1.1
  have l2 := L2.1
  let Δ1 : Dl := [some (.hnd 0), some (.lst (ws0.map .str)), some (.lst (fs.map .str)), some (.tup ds1), some (.lst (ws1.map .str)), some (.tup so), some (.tup [inner])]
  obtain ⟨e5, b6, p6, L6, hb6⟩ : ∃ (e5 : List D) (b6 : BagSt), (ifP (tstP (binP eqD (callP F_l_pull (consP (varP 0) (consP (cstP (.int 2)) nilP))) (cstP (.int 0)))) (tupP (consP (tupP (consP (cstP (.str "if")) (consP (callP F_l_test (consP (varP 0) (consP (varP 4) (consP (cstP (.int 9)) nilP)))) (consP (varP 6) (consP (tupP nilP) nilP))))) nilP)) (tupP nilP)) Δ1 ⟨some b4, scr, own2, nx2⟩ = some (.ok (.tup e5), ⟨some b6, scr, own2, nx2⟩) ∧ Ls (StW 3) 1 e5 ∧ okB b6 := by
    cases hr : r == 0 with
    | false => exact ⟨[], b5, if_ff ((pull_tst (x := none) p5).trans (by rw [hr])) rfl, .nil, hb5⟩
    | true =>
      obtain ⟨t, tw, b6, q6, ht, hb6⟩ := test_ok (scr := scr) (own := own2) (nx := nx2) b5 hb5 I1 (by omega) 9
      exact ⟨_, b6, if_tt ((pull_tst (x := none) p5).trans (by rw [hr])) (tup_at (cons_at (tup_at (cons_at rfl (cons_at (call3' rfl rfl rfl q6) (cons_at rfl (cons_at rfl rfl))))) rfl)), ls_if (n := 2) ht (Li.mono (by decide)) .nil, hb6⟩
  have L7 : Ls (StW 3) (fs.length + 3) (ds1 ++ e5) := (L1.up.app L6)
  obtain ⟨r', b7, p7, r0', r1', hb7⟩ := pull_ok b6 scr own2 nx2 2 hb6 (by decide) (by decide)
  let Δ2 : Dl := [some (.hnd 0), some (.lst (ws0.map .str)), some (.lst (fs.map .str)), some (.tup (ds1 ++ e5)), some (.lst (ws1.map .str)), some (.tup so), some (.tup [inner])]
  obtain ⟨e8, b8, p8, L8, hb8⟩ : ∃ (e8 : List D) (b8 : BagSt), (ifP (tstP (binP eqD (callP F_l_pull (consP (varP 0) (consP (cstP (.int 2)) nilP))) (cstP (.int 0)))) (tupP (consP (tupP (consP (cstP (.str "if")) (consP (callP F_l_test (consP (varP 0) (consP (varP 4) (consP (cstP (.int 9)) nilP)))) (consP (tupP nilP) (consP (binP addD (varP 6) (varP 5)) nilP))))) nilP)) (tupP nilP)) Δ2 ⟨some b6, scr, own2, nx2⟩ = some (.ok (.tup e8), ⟨some b8, scr, own2, nx2⟩) ∧ Ls (StW 3) 1 e8 ∧ okB b8 := by
    cases hr : r' == 0 with
    | false => exact ⟨[], b7, if_ff ((pull_tst (x := none) p7).trans (by rw [hr])) rfl, .nil, hb7⟩
    | true =>
      obtain ⟨t, tw, b8, q8, ht, hb8⟩ := test_ok (scr := scr) (own := own2) (nx := nx2) b7 hb7 I1 (by omega) 9
      exact ⟨_, b8, if_tt ((pull_tst (x := none) p7).trans (by rw [hr])) (tup_at (cons_at (tup_at (cons_at rfl (cons_at (call3' rfl rfl rfl q8) (cons_at rfl (cons_at (bin_at rfl rfl (addT (by rw [List.length_singleton]; unfold big; omega))) rfl))))) rfl)), ls_if (n := 2) ht .nil ((Li.app (L2.of_pl (n := 1))).mono (by decide)), hb8⟩
  have l6 := L6.1
  have l8 := L8.1
  refine ⟨ds1 ++ e5 ++ e8, b8, own2, nx2, run_ret rfl ?_, (L7.app L8).mono (by omega), hb8⟩
  unfold d_l_all_steps
  refine sq_step (st1 := ⟨some b1, scr, own1, nx1⟩) (Δ1 := [some (.hnd 0), some (.lst (ws0.map .str)), some (.lst (fs.map .str)), some (.tup ds1), some (.lst (ws1.map .str)), none, none]) (as_at (call4 rfl rfl rfl rfl p1) put2) ?_
  refine sq_step (st1 := ⟨some b2, scr, own2, nx2⟩) (Δ1 := [some (.hnd 0), some (.lst (ws0.map .str)), some (.lst (fs.map .str)), some (.tup ds1), some (.lst (ws1.map .str)), some (.tup so), none]) (as_at (ix_at (call3' rfl rfl rfl p2) (ix0 _ _)) rfl) ?_
  refine sq_step (st1 := ⟨some b4, scr, own2, nx2⟩) (Δ1 := Δ1) (as_at (tup_at (cons_at (tup_at (cons_at rfl (cons_at (bin_at rfl (call2 rfl rfl p3) (addD_i _ _)) (cons_at (bin_at rfl (tup_at (cons_at (tup_at (cons_at rfl (cons_at (call2 rfl rfl p4) rfl))) rfl)) (addT (by rw [List.length_singleton]; unfold big; omega))) rfl)))) rfl)) rfl) ?_
  refine sq_step (st1 := ⟨some b6, scr, own2, nx2⟩) (Δ1 := Δ2) (as_at (bin_at rfl p6 (addT (by unfold big; omega))) rfl) ?_
  exact rt_at (bin_at rfl p8 (addT (by rw [List.length_append]; unfold big; omega)))
end
end Dn

set_option Elab.async false
set_option linter.all false
set_option maxRecDepth 100000
set_option maxHeartbeats 4000000
namespace Dn
open PySem PySem.Spec PyProof.Rows L2
/-! ### texts read back: words -/
def hdW : List Str → Str
  | [] => ""
  | x :: _ => x
theorem get_at (pre r : List Str) (x : Str) : ixD (.lst ((pre ++ x :: r).map .str)) (.int (pre.length : Nat)) = some (.str x) := by
  show atI ((pre ++ x :: r).map D.str) (pre.length : Nat) = _
  unfold atI ixN
  rw [if_pos (Int.natCast_nonneg _), if_pos (by rw [List.length_map, List.length_append, List.length_cons]; omega), obind_some]
  simp
theorem word_at {W pre r : List Str} {i : Int} (hW : W = pre ++ r) (hi : i = (pre.length : Nat)) (st : Sta) : F_word [.lst (W.map .str), .int i] st = some (.ok (.str (hdW r)), st) := by
  subst hW
  subst hi
  refine run_ret rfl (rt_at ?_)
  have ln : bltP lenF (consP (varP 0) nilP) [some (.lst ((pre ++ r).map .str)), some (.int (pre.length : Nat))] st = some (.ok (.int ((pre ++ r).length : Nat)), st) := blt_at (cons_at rfl rfl) (by show some (D.int (((pre ++ r).map D.str).length : Nat)) = _; rw [List.length_map])
  cases r with
  | nil => exact if_ff (st1 := st) (tst_at (bin_at rfl ln (by rw [ltD_i, decide_eq_false (by rw [List.append_nil]; omega)]))) rfl
  | cons x r => exact if_tt (st1 := st) (tst_at (bin_at rfl ln (by rw [ltD_i, decide_eq_true (by rw [List.length_append, List.length_cons]; omega)]))) (bin_at rfl rfl (get_at pre r x))
theorem is_piece_str (z : Str) (st : Sta) (hz : z.length ≤ big) : F_is_piece [.str z] st = some (.ok (.bl (okN 6 z)), st) := by
  refine run_ret rfl ?_
  unfold d_is_piece
  simp only [gd, runD, callP, kwF, pick, rtP, sqP, asP, parP, nxP, ifP, andV, orV, notV, andT, orT, notT, truP, tstP, truD, isiP, isisP, isTys, isNP, notNP, isNon, varP, chP, cstP, bltP, binP, consP, nilP, lstP, tupP, lcP, itP, rng1P, rng2P, slP, noP, soP, intOf, negP, sosP, bd_ok, List.map, List.replicate, List.length_cons, List.length_nil, List.cons_append, List.nil_append, List.append_nil, List.getElem?_cons_zero, List.getElem?_cons_succ, List.filterMap, List.set, omap_some, obind_some, isTy, blOf, if_t, if_f, lenF, leD_i, leD_s, ltD_i, ltD_s, gtD_i, geD_i, addD_i, subD_i, mulD_i, itemsD, wipeD, Tgt.put, setAll, outR, lb0, lb1, lb2, lb3, lb4, lb5, lb6, lb7, lb8, lb9, lb10, lb11, lb12, allF, listF, tupleF, intF, eq_self_iff_true, if_true, if_false, decide_true, decide_false, Bool.true_and, Bool.false_and, Bool.and_true, Bool.and_false, Bool.not_true, Bool.not_false, Nat.sub_self, Nat.reduceAdd, Nat.reduceSub, Nat.reduceEqDiff, is_word_str z 6 st hz]
  rfl
section
variable {W pre r : List Str} {i : Int} (st : Sta)
theorem name_at {x : Str} (hx : NameS x) (hW : W = pre ++ x :: r) (hi : i = (pre.length : Nat)) : F_read_name [.lst (W.map .str), .int i] st = some (.ok (.str x), st) := by
  have w := word_at hW hi st
  refine run_ret rfl ?_
  refine sq_step (if_ff (st1 := st) (not_at (b := true) (tru_at (call1 (call2 rfl rfl w) ?_))) rfl) (rt_at ?_)
  · rw [show hdW (x :: r) = x from rfl, is_name_str x st hx.big, okN_of hx]
  · subst hW
    subst hi
    exact bin_at rfl rfl (get_at pre r x)
theorem piece_at {x : Str} (hx : okN 6 x = true) (hl : x.length ≤ 8) (hW : W = pre ++ x :: r) (hi : i = (pre.length : Nat)) : F_read_piece [.lst (W.map .str), .int i] st = some (.ok (.str x), st) := by
  have w := word_at hW hi st
  refine run_ret rfl ?_
  refine sq_step (if_ff (st1 := st) (not_at (b := true) (tru_at (call1 (call2 rfl rfl w) ?_))) rfl) (rt_at ?_)
  · rw [show hdW (x :: r) = x from rfl, is_piece_str x st (Nat.le_trans hl (by decide)), hx]
  · subst hW
    subst hi
    exact bin_at rfl rfl (get_at pre r x)
end
/-- a word that is no name -/
def stopW (x : Str) : Bool := decide (x.length ≤ 8) && !okN 4 x
theorem cut_mid (pre g post : List Str) : cutL ((pre ++ g ++ post).map D.str) (some (pre.length : Nat)) (some ((pre ++ g).length : Nat)) = g.map .str := by
  have l : ((pre ++ g ++ post).map D.str).length = pre.length + g.length + post.length := by rw [List.length_map, List.length_append, List.length_append]
  have e1 : HT.sIx ((pre ++ g ++ post).map D.str).length 0 (some (pre.length : Nat)) = pre.length := by rw [HT.sIx_nat, l]; exact Nat.min_eq_left (by omega)
  have e2 : HT.sIx ((pre ++ g ++ post).map D.str).length ((pre ++ g ++ post).map D.str).length (some ((pre ++ g).length : Nat)) = pre.length + g.length := by rw [HT.sIx_nat, l, List.length_append]; exact Nat.min_eq_left (by omega)
  unfold cutL
  rw [e1, e2, ← List.map_drop, ← List.map_take]
  congr 1
  rw [List.append_assoc, List.drop_append_of_le_length (Nat.le_refl _), List.drop_length, List.nil_append, List.take_append_of_le_length (by omega)]
  exact List.take_of_length_le (by omega)
abbrev gCond : TDen := (andT (truP (callP F_is_name (consP (callP F_word (consP (varP 0) (consP (varP 1) nilP))) nilP))) (orT (tstP (binP eqD (varP 1) (varP 2))) (tstP (binP ltD (binP ixD (varP 0) (binP subD (varP 1) (cstP (.int 1)))) (binP ixD (varP 0) (varP 1))))))
abbrev gBody : SDen := (asP (.one 1) (binP addD (varP 1) (cstP (.int 1))))
theorem group_loop {W post : List Str} (hs : stopW (hdW post) = true) (st : Sta) (pre : List Str) : ∀ (g2 g1 : List Str) (n : Nat), (∀ z ∈ g1 ++ g2, NameS z) → Asc (g1 ++ g2) → W = pre ++ (g1 ++ g2) ++ post → g2.length < n →
    whGo gCond gBody n [some (.lst (W.map .str)), some (.int ((pre ++ g1).length : Nat)), some (.int (pre.length : Nat))] st = some (.ok (.nx [some (.lst (W.map .str)), some (.int ((pre ++ (g1 ++ g2)).length : Nat)), some (.int (pre.length : Nat))]), st)
  | [], g1, n + 1, nm, asc, hW, hn => by
    rw [List.append_nil] at hW ⊢
    have w := word_at (W := W) (pre := pre ++ g1) (r := post) hW rfl st
    have hl : (hdW post).length ≤ 8 := by unfold stopW at hs; rw [Bool.and_eq_true] at hs; exact of_decide_eq_true hs.1
    have hf : okN 4 (hdW post) = false := by unfold stopW at hs; rw [Bool.and_eq_true, Bool.not_eq_true'] at hs; exact hs.2
    exact wh_ff (and_f1 (tru_at (call1 (call2 rfl rfl w) (by rw [is_name_str _ st (Nat.le_trans hl (by decide)), hf]))))
  | x :: g2, g1, n + 1, nm, asc, hW, hn => by
    have hx : NameS x := nm x (List.mem_append_right _ List.mem_cons_self)
    have hW1 : W = (pre ++ g1) ++ x :: (g2 ++ post) := by rw [hW]; simp
    have w := word_at (W := W) (pre := pre ++ g1) (r := x :: (g2 ++ post)) hW1 rfl st
    have hW2 : W = pre ++ ((g1 ++ [x]) ++ g2) ++ post := by rw [hW]; simp
    have ih := group_loop hs st pre g2 (g1 ++ [x]) n (fun z hz => nm z (by simpa using hz)) (by rw [List.append_assoc]; exact asc) hW2 (by rw [List.length_cons] at hn; omega)
    rw [show (g1 ++ [x]) ++ g2 = g1 ++ x :: g2 by simp] at ih
    have c1 : truP (callP F_is_name (consP (callP F_word (consP (varP 0) (consP (varP 1) nilP))) nilP)) [some (.lst (W.map .str)), some (.int ((pre ++ g1).length : Nat)), some (.int (pre.length : Nat))] st = some (.ok true, st) :=
      tru_at (call1 (call2 rfl rfl w) (by rw [show hdW (x :: (g2 ++ post)) = x from rfl, is_name_str x st hx.big, okN_of hx]))
    refine wh_tt (st1 := st) (st2 := st) (Δ2 := [some (.lst (W.map .str)), some (.int ((pre ++ (g1 ++ [x])).length : Nat)), some (.int (pre.length : Nat))]) (and_t c1 ?_) (as_at (bin_at rfl rfl (addD_i _ _)) (by
      show some _ = _
      rw [← List.append_assoc pre g1 [x], List.length_append (as := pre ++ g1), List.length_singleton]
      rfl)) ih
    cases hg : g1.getLast? with
    | none =>
      have e : g1 = [] := List.getLast?_eq_none_iff.mp hg
      subst e
      exact or_t1 (tst_at (bin_at rfl rfl (by rw [eqD_i, List.append_nil, beq_self_eq_true])))
    | some y =>
      obtain ⟨g0, rfl⟩ : ∃ g0, g1 = g0 ++ [y] := List.getLast?_eq_some_iff.mp hg
      have lt : sLt y x = true := by
        have := List.pairwise_append.mp asc
        exact this.2.2 y (List.mem_append_right _ (List.mem_singleton.mpr rfl)) x List.mem_cons_self
      have hW3 : W = (pre ++ g0) ++ y :: (x :: (g2 ++ post)) := by rw [hW]; simp
      have i1 : ixD (.lst (W.map .str)) (.int ((((pre ++ (g0 ++ [y])).length : Nat) : Int) - 1)) = some (.str y) := by
        rw [show (((pre ++ (g0 ++ [y])).length : Nat) : Int) - 1 = ((pre ++ g0).length : Nat) by simp only [List.length_append, List.length_singleton]; omega, hW3]
        exact get_at _ _ _
      have i2 : ixD (.lst (W.map .str)) (.int ((pre ++ (g0 ++ [y])).length : Nat)) = some (.str x) := by
        rw [hW1]
        exact get_at _ _ _
      refine or_f1 (st1 := st) (tst_at (bin_at rfl rfl (by rw [eqD_i, show ((((pre ++ (g0 ++ [y])).length : Nat) : Int) == ((pre.length : Nat) : Int)) = false by rw [Bool.eq_false_iff]; intro z; have := beq_iff_eq.mp z; simp only [List.length_append, List.length_singleton] at this; omega]))) ?_
      exact tst_at (bin_at (bin_at rfl (bin_at rfl rfl (subD_i _ _)) i1) (bin_at rfl rfl i2) (by rw [ltD_s, lt]))
section
variable {W pre post : List Str} {i : Int} (st : Sta)
theorem group_at {g : List Str} (hg : Grp g) (hs : stopW (hdW post) = true) (hW : W = pre ++ (g ++ post)) (hi : i = (pre.length : Nat)) : F_read_group [.lst (W.map .str), .int i] st = some (.ok (.tup [tupS g, .int ((pre ++ g).length : Nat)]), st) := by
  subst hi
  have hW' : W = pre ++ ([] ++ g) ++ post := by rw [hW]; simp
  have lp := group_loop hs st pre g [] whN hg.nm hg.asc hW' (by have := hg.len; unfold whN; omega)
  rw [List.append_nil, List.nil_append] at lp
  refine run_ret rfl ?_
  refine sq_step (st1 := st) (Δ1 := [some (.lst (W.map .str)), some (.int (pre.length : Nat)), some (.int (pre.length : Nat))]) rfl ?_
  refine sq_step (show whP gCond gBody _ _ = _ from lp) ?_
  refine rt_at (tup_at (cons_at (d := tupS g) ?_ (cons_at rfl rfl)))
  refine blt_at (ds := [.lst (g.map .str)]) (cons_at ?_ rfl) rfl
  have sl : slD (.lst (W.map .str)) (some (pre.length : Nat)) (some ((pre ++ g).length : Nat)) = some (.lst (g.map .str)) := by
    show some (D.lst _) = _
    rw [show W = pre ++ g ++ post by rw [hW]; simp, cut_mid]
  simp only [gd, runD, callP, kwF, pick, rtP, sqP, asP, parP, nxP, ifP, andV, orV, notV, andT, orT, notT, truP, tstP, truD, isiP, isisP, isTys, isNP, notNP, isNon, varP, chP, cstP, bltP, binP, consP, nilP, lstP, tupP, lcP, itP, rng1P, rng2P, slP, noP, soP, intOf, negP, sosP, bd_ok, List.map, List.replicate, List.length_cons, List.length_nil, List.cons_append, List.nil_append, List.append_nil, List.getElem?_cons_zero, List.getElem?_cons_succ, List.filterMap, List.set, omap_some, obind_some, isTy, blOf, if_t, if_f, lenF, leD_i, leD_s, ltD_i, ltD_s, gtD_i, geD_i, addD_i, subD_i, mulD_i, itemsD, wipeD, Tgt.put, setAll, outR, lb0, lb1, lb2, lb3, lb4, lb5, lb6, lb7, lb8, lb9, lb10, lb11, lb12, allF, listF, tupleF, intF, eq_self_iff_true, if_true, if_false, decide_true, decide_false, Bool.true_and, Bool.false_and, Bool.and_true, Bool.and_false, Bool.not_true, Bool.not_false, Nat.sub_self, Nat.reduceAdd, Nat.reduceSub, Nat.reduceEqDiff, sl]
/-- groups with commas between -/
theorem bases_loop {p0 : List Str} (hs : stopW (hdW post) = true) (hc : chN (hdW post) "," = true) : ∀ (gs done : List (List Str)) (n : Nat) (x2 : Option D), (∀ h ∈ gs, Grp h) → done.length + gs.length ≤ 100 → W = p0 ++ (gs.flatMap (fun h => wCm :: h) ++ post) → gs.length < n →
    ∃ y2, whGo (tstP (binP eqD (callP F_word (consP (varP 0) (consP (varP 1) nilP))) (cstP (.str ",")))) (sqP (asP (.tup [2, 1]) (callP F_read_group (consP (varP 0) (consP (binP addD (varP 1) (cstP (.int 1))) nilP)))) (asP (.one 3) (binP addD (varP 3) (tupP (consP (varP 2) nilP))))) n
      [some (.lst (W.map .str)), some (.int (p0.length : Nat)), x2, some (.tup (done.map tupS))] st = some (.ok (.nx [some (.lst (W.map .str)), some (.int ((p0 ++ gs.flatMap fun h => wCm :: h).length : Nat)), y2, some (.tup ((done ++ gs).map tupS))]), st) := by
  intro gs
  induction gs generalizing p0 with
  | nil =>
    intro done n x2 _ _ hW hn
    cases n with
    | zero => omega
    | succ n =>
      rw [List.flatMap_nil, List.nil_append] at hW
      refine ⟨x2, ?_⟩
      rw [List.flatMap_nil, List.append_nil, List.append_nil]
      exact wh_ff (tst_at (bin_at (call2 rfl rfl (word_at hW rfl st)) rfl (eq_n hc)))
  | cons g gs ih =>
    intro done n x2 hg hl hW hn
    cases n with
    | zero => omega
    | succ n =>
      rw [List.length_cons] at hn hl
      have hW1 : W = (p0 ++ [wCm]) ++ (g ++ (gs.flatMap (fun h => wCm :: h) ++ post)) := by rw [hW, List.flatMap_cons]; simp
      have hst : stopW (hdW (gs.flatMap (fun h => wCm :: h) ++ post)) = true := by
        cases gs with
        | nil => rw [List.flatMap_nil, List.nil_append]; exact hs
        | cons h gs => rw [List.flatMap_cons]; show stopW wCm = true; decide +kernel
      have gr := group_at (i := ((p0.length : Nat) : Int) + 1) st (hg g List.mem_cons_self) hst hW1 (by rw [List.length_append, List.length_singleton]; omega)
      obtain ⟨y2, q⟩ := ih (p0 := p0 ++ [wCm] ++ g) (done ++ [g]) n (some (tupS g)) (fun h hh => hg h (List.mem_cons_of_mem _ hh)) (by rw [List.length_append, List.length_singleton]; omega) (by rw [hW1]; simp) (by omega)
      refine ⟨y2, ?_⟩
      rw [show p0 ++ (g :: gs).flatMap (fun h => wCm :: h) = p0 ++ [wCm] ++ g ++ gs.flatMap fun h => wCm :: h by rw [List.flatMap_cons]; simp, show done ++ g :: gs = done ++ [g] ++ gs by simp]
      have hW0 : W = p0 ++ wCm :: (g ++ (gs.flatMap (fun h => wCm :: h) ++ post)) := by rw [hW1]; simp
      refine wh_tt (st1 := st) (st2 := st) (tst_at (bin_at (call2 rfl rfl (word_at hW0 rfl st)) rfl (eq_y (x := wCm) (by decide +kernel)))) ?_ q
      refine sq_step (as_at (call2 rfl (bin_at rfl rfl (addD_i _ _)) gr) put2) ?_
      rw [List.map_append]
      exact as_at (bin_at rfl (tup_at (cons_at rfl rfl)) (addT (by rw [List.length_map, List.length_singleton]; unfold big; omega))) rfl
theorem bases_at {g : List Str} {gs : List (List Str)} (hg : ∀ h ∈ g :: gs, Grp h) (hl : gs.length ≤ 2) (hs : stopW (hdW post) = true) (hc : chN (hdW post) "," = true) (hW : W = pre ++ (sepW "," (g :: gs) ++ post)) (hi : i = (pre.length : Nat)) :
    F_read_bases [.lst (W.map .str), .int i] st = some (.ok (.tup [.tup ((g :: gs).map tupS), .int ((pre ++ sepW "," (g :: gs)).length : Nat)]), st) := by
  have hW1 : W = pre ++ (g ++ (gs.flatMap (fun h => wCm :: h) ++ post)) := by rw [hW]; show pre ++ ((g ++ gs.flatMap _) ++ post) = _; simp
  have hst : stopW (hdW (gs.flatMap (fun h => wCm :: h) ++ post)) = true := by
    cases gs with
    | nil => rw [List.flatMap_nil, List.nil_append]; exact hs
    | cons h gs => rw [List.flatMap_cons]; show stopW wCm = true; decide +kernel
  have gr := group_at st (hg g List.mem_cons_self) hst hW1 hi
  obtain ⟨y2, q⟩ := bases_loop (W := W) (post := post) st (p0 := pre ++ g) hs hc gs [g] whN (some (tupS g)) (fun h hh => hg h (List.mem_cons_of_mem _ hh)) (by rw [List.length_singleton]; omega) (by rw [hW1]; simp) (by unfold whN; omega)
  refine run_ret rfl ?_
  refine sq_step (as_at (call2 rfl rfl gr) put2) ?_
  refine sq_step (as_at (tup_at (cons_at rfl rfl)) rfl) ?_
  refine sq_step (show whP _ _ _ _ = _ from q) ?_
  rw [show pre ++ sepW "," (g :: gs) = pre ++ g ++ gs.flatMap fun h => wCm :: h by show pre ++ (g ++ gs.flatMap _) = _; simp]
  exact rt_at (tup_at (cons_at rfl (cons_at rfl rfl)))
end
end Dn

set_option Elab.async false
set_option linter.all false
set_option maxRecDepth 100000
set_option maxHeartbeats 4000000
namespace Dn
open PySem PySem.Spec PyProof.Rows L2
/-! ### texts read back: steps -/
theorem ne_n {x y : Str} (h : chN x y = true) : neD (.str x) (.str y) = some (.bl true) := by
  have q := h
  unfold chN at h
  rw [Bool.and_eq_true, Bool.and_eq_true, Bool.not_eq_true'] at h
  unfold Dn.neD
  rw [eqB_txt h.1.1 h.1.2, h.2]
  rfl
theorem ne_y {x : Str} (h : okC x = true) : neD (.str x) (.str x) = some (.bl false) := by
  unfold Dn.neD
  rw [eqB_txt h h, decide_eq_true rfl]
  rfl
theorem not_in_tup (x : Str) (zs : List Str) : notInD (.str x) (.tup (zs.map .str)) = some (.bl (!decide (x ∈ zs))) := by
  have := in_tup x zs
  unfold inD at this
  unfold notInD
  cases h : inB (.str x) (.tup (zs.map .str)) with
  | none => rw [h] at this; cases this
  | some v => rw [h] at this; cases this; rfl
theorem int_of {x : Str} {k : Int} (h : PySem.intText? x = some k) (hl : x.length ≤ 640) : int3F [.str x] = some (.int k) := by
  show (PySem.intText? x).bind _ = _
  rw [h, obind_some, if_pos hl]
abbrev k1 (a : Str) : List Str := [a]
abbrev k2 (a b : Str) : List Str := [a, b]
def ranksW : List Str := ["0", "1", "2", "3", "4", "5", "6"]
def timesW : List Str := ["1", "2", "3", "4"]
theorem rank_facts {k : Int} (h0 : 0 ≤ k) (h1 : k < 7) : decide (txI k ∈ ranksW) = true ∧ int3F [.str (txI k)] = some (.int k) := by
  have : k = 0 ∨ k = 1 ∨ k = 2 ∨ k = 3 ∨ k = 4 ∨ k = 5 ∨ k = 6 := by omega
  rcases this with h | h | h | h | h | h | h <;> subst h <;> exact ⟨by decide +kernel, int_of (by decide +kernel) (by decide +kernel)⟩
theorem time_facts {k : Int} (h0 : 1 ≤ k) (h1 : k < 5) : decide (txI k ∈ timesW) = true ∧ int3F [.str (txI k)] = some (.int k) := by
  have : k = 1 ∨ k = 2 ∨ k = 3 ∨ k = 4 := by omega
  rcases this with h | h | h | h <;> subst h <;> exact ⟨by decide +kernel, int_of (by decide +kernel) (by decide +kernel)⟩
section
variable {W pre r post : List Str} {i : Int} (st : Sta)
theorem digit_at {zs : List Str} {k : Int} (h1 : decide (txI k ∈ zs) = true) (h2 : int3F [.str (txI k)] = some (.int k)) (hW : W = pre ++ txI k :: r) (hi : i = (pre.length : Nat)) : F_read_digit [.lst (W.map .str), .int i, .tup (zs.map .str)] st = some (.ok (.int k), st) := by
  have w := word_at hW hi st
  refine run_ret rfl ?_
  refine sq_step (if_ff (st1 := st) (tst_at (bin_at (call2 rfl rfl w) rfl (by rw [show hdW (txI k :: r) = txI k from rfl, not_in_tup, h1]; rfl))) rfl) (rt_at ?_)
  subst hW
  subst hi
  exact blt_at (cons_at (bin_at rfl rfl (get_at pre r _)) rfl) h2
theorem len_snoc (pre : List Str) (x : Str) : ((pre.length : Nat) : Int) + 1 = ((pre ++ [x]).length : Nat) := by rw [List.length_append, List.length_singleton]; omega
theorem len_two (pre : List Str) (x y : Str) : ((pre.length : Nat) : Int) + 2 = ((pre ++ [x, y]).length : Nat) := by rw [List.length_append]; simp only [List.length_cons, List.length_nil]; omega
theorem len_three (pre : List Str) (x y z : Str) : ((pre.length : Nat) : Int) + 3 = ((pre ++ [x, y, z]).length : Nat) := by rw [List.length_append]; simp only [List.length_cons, List.length_nil]; omega
/-- a literal word is looked for -/
theorem wd_n {Δ : Dl} {n : Nat} {x l : Str} (hv : varP n Δ st = some (.ok (.str x), st)) (h : chN x l = true) : tstP (binP eqD (varP n) (cstP (.str l))) Δ st = some (.ok false, st) := tst_at (bin_at hv rfl (eq_n h))
theorem wd_y {Δ : Dl} {n : Nat} {x : Str} (hv : varP n Δ st = some (.ok (.str x), st)) (h : okC x = true) : tstP (binP eqD (varP n) (cstP (.str x))) Δ st = some (.ok true, st) := tst_at (bin_at hv rfl (eq_y h))
theorem test_at {t : D} {tw : List Str} (ht : TeW t tw) (hs : stopW (hdW post) = true) (hW : W = pre ++ (tw ++ post)) (hi : i = (pre.length : Nat)) : F_read_test [.lst (W.map .str), .int i] st = some (.ok (.tup [t, .int ((pre ++ tw).length : Nat)]), st) := by
  cases ht with
  | whole =>
    have w := word_at hW hi st
    subst hi
    refine run_ret rfl ?_
    refine sq_step (as_at (call2 rfl rfl w) rfl) ?_
    refine sq_ret (if_tt (wd_y (x := "whole") st rfl (by decide +kernel)) (rt_at ?_))
    rw [← len_snoc]
    exact tup_at (cons_at (tup_at (cons_at rfl rfl)) (cons_at (bin_at rfl rfl (addD_i _ _)) rfl))
  | @rank g k hg h0 h1 =>
    have w := word_at hW hi st
    subst hi
    obtain ⟨f1, f2⟩ := rank_facts h0 h1
    have dg := digit_at (W := W) (i := ((pre.length : Nat) : Int) + 1) (pre := pre ++ k1 "rank") (r := g ++ post) st f1 f2 (by rw [hW]; simp) (len_snoc _ _)
    have gr := group_at (W := W) (i := ((pre.length : Nat) : Int) + 2) (pre := pre ++ k2 "rank" (txI k)) (post := post) st hg hs (by rw [hW]; simp) (len_two _ _ _)
    refine run_ret rfl ?_
    refine sq_step (as_at (call2 rfl rfl w) rfl) ?_
    refine sq_step (if_ff (wd_n (x := "rank") st rfl (by decide +kernel)) rfl) ?_
    refine sq_ret (if_tt (wd_y (x := "rank") st rfl (by decide +kernel)) ?_)
    refine sq_step (as_at (call3' rfl (bin_at rfl rfl (addD_i _ _)) rfl dg) rfl) ?_
    refine sq_step (as_at (call2 rfl (bin_at rfl rfl (addD_i _ _)) gr) put2) ?_
    rw [show pre ++ ("rank" : Str) :: txI k :: g = pre ++ k2 "rank" (txI k) ++ g by simp]
    exact rt_at (tup_at (cons_at (tup_at (cons_at rfl (cons_at rfl (cons_at rfl rfl)))) (cons_at rfl rfl)))
  | @spans g z hg hz =>
    have w := word_at hW hi st
    subst hi
    have nm := name_at (W := W) (i := ((pre.length : Nat) : Int) + 1) (pre := pre ++ k1 "spans") (r := g ++ post) st hz (by rw [hW]; simp) (len_snoc _ _)
    have gr := group_at (W := W) (i := ((pre.length : Nat) : Int) + 2) (pre := pre ++ k2 "spans" (z)) (post := post) st hg hs (by rw [hW]; simp) (len_two _ _ _)
    refine run_ret rfl ?_
    refine sq_step (as_at (call2 rfl rfl w) rfl) ?_
    refine sq_step (if_ff (wd_n (x := "spans") st rfl (by decide +kernel)) rfl) ?_
    refine sq_step (if_ff (wd_n (x := "spans") st rfl (by decide +kernel)) rfl) ?_
    refine sq_ret (if_tt (wd_y (x := "spans") st rfl (by decide +kernel)) ?_)
    refine sq_step (as_at (call2 rfl (bin_at rfl rfl (addD_i _ _)) nm) rfl) ?_
    refine sq_step (as_at (call2 rfl (bin_at rfl rfl (addD_i _ _)) gr) put2) ?_
    rw [show pre ++ ("spans" : Str) :: z :: g = pre ++ k2 "spans" z ++ g by simp]
    exact rt_at (tup_at (cons_at (tup_at (cons_at rfl (cons_at rfl (cons_at rfl rfl)))) (cons_at rfl rfl)))
end
/-! steps -/
theorem StW.first : ∀ {n : Nat} {d : D} {ws : List Str}, StW n d ws → ∃ w r, ws = w :: r ∧ chN w ")" = true
  | n + 1, d, ws, .inl h => by cases h <;> exact ⟨_, _, rfl, by decide +kernel⟩
  | n + 1, d, ws, .inr (.inl ⟨t, tw, as, wa, bs, wb, ht, ha, hb, e1, e2⟩) => ⟨"if", _, e2, by decide +kernel⟩
  | n + 1, d, ws, .inr (.inr ⟨i, as, wa, h0, h1, ha, e1, e2⟩) => ⟨"repeat", _, e2, by decide +kernel⟩
/-- what may stand behind a step -/
structure EndS (x : Str) : Prop where
  stop : stopW x = true
  cm : chN x "," = true
theorem endS_semi : EndS ";" := ⟨by decide +kernel, by decide +kernel⟩
theorem endS_close : EndS ")" := ⟨by decide +kernel, by decide +kernel⟩
theorem endS_none : EndS "" := ⟨by decide +kernel, by decide +kernel⟩
/-- what steps within brackets, one deeper, ask of the reader -/
def RdB (F : FDen) (n dep : Nat) : Prop := ∀ (as : List D) (wa pre post W : List Str) (i : Int) (st : Sta), as ≠ [] → SsOf (StW n) 5 as wa → hdW post = ")" → W = pre ++ (wa ++ post) → i = (pre.length : Nat) → F [.lst (W.map .str), .int i, .int ((dep : Int) + 1)] st = some (.ok (.tup [.tup as, .int ((pre ++ wa).length : Nat)]), st)
section
variable {F : FDen} {n dep : Nat} (hF : RdB F n dep) (hd : dep < 20) {W pre post : List Str} {i : Int} (st : Sta)
include hF hd
theorem brackets_at {as : List D} {wa : List Str} (ha : SsOf (StW n) 5 as wa) (hW : W = pre ++ (kO ++ wa ++ kC ++ post)) (hi : i = (pre.length : Nat)) : F_read_brackets F [.lst (W.map .str), .int i, .int dep] st = some (.ok (.tup [.tup as, .int ((pre ++ (kO ++ wa ++ kC)).length : Nat)]), st) := by
  have w := word_at (W := W) (pre := pre) (r := "(" :: (wa ++ kC ++ post)) (by rw [hW]; simp) hi st
  subst hi
  have e1 : (((dep : Nat) : Int) == 20) = false := by rw [Bool.eq_false_iff]; intro z; have := beq_iff_eq.mp z; omega
  have w2 := word_at (W := W) (pre := pre ++ kO ++ wa) (r := ")" :: post) (by rw [hW]; simp) rfl st
  refine run_ret rfl ?_
  refine sq_step (if_ff (st1 := st) (or_ff (tst_at (bin_at (call2 rfl rfl w) rfl (ne_y (x := "(") (by decide +kernel)))) (tst_at (bin_at rfl rfl (by rw [eqD_i, e1])))) rfl) ?_
  refine sq_step (st1 := st) (Δ1 := [some (.lst (W.map .str)), some (.int ((pre ++ kO).length : Nat)), some (.int dep), some (.tup [])]) (by
    unfold parP
    rw [cons_at (d := .tup []) rfl (cons_at (bin_at rfl rfl (addD_i _ _)) rfl), bd_ok, ← len_snoc]
    rfl) ?_
  refine sq_step (st1 := st) (Δ1 := [some (.lst (W.map .str)), some (.int ((pre ++ kO ++ wa).length : Nat)), some (.int dep), some (.tup as)]) ?_ ?_
  · cases as with
    | nil =>
      obtain ⟨ps, e, rfl, _, _⟩ := ha
      have : ps = [] := by cases ps with
        | nil => rfl
        | cons _ _ => cases e
      subst this
      rw [show pre ++ kO ++ sepW ";" (([] : List (D × List Str)).map (·.2)) = pre ++ kO by simp [sepW]] at w2 ⊢
      exact if_ff (st1 := st) (tst_at (bin_at (call2 rfl rfl w2) rfl (ne_y (x := ")") (by decide +kernel)))) rfl
    | cons a as =>
      have rd := hF (a :: as) wa (pre ++ kO) (")" :: post) W _ st (List.cons_ne_nil _ _) ha rfl (by rw [hW]; simp) rfl
      obtain ⟨x, r, ex, hx⟩ : ∃ x r, wa = x :: r ∧ chN x ")" = true := by
        obtain ⟨ps, e, rfl, hp, _⟩ := ha
        cases ps with
        | nil => cases e
        | cons p ps =>
          obtain ⟨x, r, e1, e2⟩ := (hp p List.mem_cons_self).first
          exact ⟨x, r ++ (ps.map (·.2)).flatMap fun v => wSm :: v, by rw [List.map_cons]; show p.2 ++ _ = _; rw [e1]; rfl, e2⟩
      have w3 := word_at (W := W) (pre := pre ++ kO) (r := wa ++ (")" : Str) :: post) (by rw [hW]; simp) rfl st
      rw [ex] at w3
      refine if_tt (st1 := st) (tst_at (bin_at (call2 rfl rfl w3) rfl (ne_n hx))) ?_
      exact as_at (call3' rfl rfl (bin_at rfl rfl (addD_i _ _)) rd) put2
  · refine sq_step (if_ff (st1 := st) (tst_at (bin_at (call2 rfl rfl w2) rfl (ne_y (x := ")") (by decide +kernel)))) rfl) ?_
    rw [show pre ++ (kO ++ wa ++ kC) = pre ++ kO ++ wa ++ kC by simp, ← len_snoc]
    exact rt_at (tup_at (cons_at rfl (cons_at (bin_at rfl rfl (addD_i _ _)) rfl)))
theorem compound_at {d : D} {ws : List Str} (h : StW (n + 1) d ws) (hc : ∃ x r, ws = x :: r ∧ (x = "if" ∨ x = "repeat" ∨ x = "use")) (he : EndS (hdW post)) (hW : W = pre ++ (ws ++ post)) (hi : i = (pre.length : Nat)) : F_read_compound F [.lst (W.map .str), .int i, .int dep] st = some (.ok (.tup [d, .int ((pre ++ ws).length : Nat)]), st) := by
  obtain ⟨x0, r0, e0, hx0⟩ := hc
  rcases h with h | ⟨t, tw, as, wa, bs, wb, ht, ha, hb, rfl, rfl⟩ | ⟨k, as, wa, h0, h1, ha, rfl, rfl⟩
  · cases h with
    | use hx h6 =>
      rename_i x
      have w := word_at (W := W) (pre := pre) (r := "use" :: x :: post) (by rw [hW]; simp) hi st
      subst hi
      have pc := piece_at (W := W) (i := ((pre.length : Nat) : Int) + 1) (pre := pre ++ k1 "use") (r := post) st h6 hx.len (by rw [hW]; simp) (len_snoc _ _)
      refine run_ret rfl ?_
      refine sq_step (as_at (call2 rfl rfl w) rfl) ?_
      refine sq_step (if_ff (wd_n (x := "use") st rfl (by decide +kernel)) rfl) (sq_step (if_ff (wd_n (x := "use") st rfl (by decide +kernel)) rfl) ?_)
      refine sq_ret (if_tt (wd_y (x := "use") st rfl (by decide +kernel)) ?_)
      rw [← len_two]
      exact rt_at (tup_at (cons_at (tup_at (cons_at rfl (cons_at (call2 rfl (bin_at rfl rfl (addD_i _ _)) pc) rfl))) (cons_at (bin_at rfl rfl (addD_i _ _)) rfl)))
    | _ => exfalso; cases e0; rcases hx0 with h | h | h <;> exact absurd h (by decide +kernel)
  · have w := word_at (W := W) (pre := pre) (r := "if" :: (tw ++ (kO ++ wa ++ kCEO ++ wb ++ kC ++ post))) (by rw [hW]; simp) hi st
    subst hi
    have te := test_at (W := W) (i := ((pre.length : Nat) : Int) + 1) (pre := pre ++ kIf) (post := kO ++ wa ++ kCEO ++ wb ++ kC ++ post) st ht (by show stopW "(" = true; decide +kernel) (by rw [hW]; simp) (len_snoc _ _)
    have b1 := brackets_at hF hd (W := W) (i := ((pre ++ kIf ++ tw).length : Nat)) (pre := pre ++ kIf ++ tw) (post := kE ++ kO ++ wb ++ kC ++ post) st ha (by rw [hW]; simp) rfl
    have w2 := word_at (W := W) (pre := pre ++ kIf ++ tw ++ (kO ++ wa ++ kC)) (r := "else" :: (kO ++ wb ++ kC ++ post)) (by rw [hW]; simp) rfl st
    have b2 := brackets_at hF hd (W := W) (i := (((pre ++ kIf ++ tw ++ (kO ++ wa ++ kC)).length : Nat) : Int) + 1) (pre := pre ++ kIf ++ tw ++ (kO ++ wa ++ kC) ++ k1 "else") (post := post) st hb (by rw [hW]; simp) (len_snoc _ _)
    refine run_ret rfl ?_
    refine sq_step (as_at (call2 rfl rfl w) rfl) ?_
    refine sq_ret (if_tt (wd_y (x := "if") st rfl (by decide +kernel)) ?_)
    refine sq_step (as_at (call2 rfl (bin_at rfl rfl (addD_i _ _)) te) put2) ?_
    refine sq_step (as_at (call3' rfl rfl rfl b1) put2) ?_
    refine sq_step (if_ff (st1 := st) (tst_at (bin_at (call2 rfl rfl w2) rfl (ne_y (x := "else") (by decide +kernel)))) rfl) ?_
    refine sq_step (as_at (call3' rfl (bin_at rfl rfl (addD_i _ _)) rfl b2) put2) ?_
    rw [show pre ++ (kIf ++ tw ++ kO ++ wa ++ kCEO ++ wb ++ kC) = pre ++ kIf ++ tw ++ (kO ++ wa ++ kC) ++ kE ++ (kO ++ wb ++ kC) by simp]
    exact rt_at (tup_at (cons_at (tup_at (cons_at rfl (cons_at rfl (cons_at rfl (cons_at rfl rfl))))) (cons_at rfl rfl)))
  · have w := word_at (W := W) (pre := pre) (r := "repeat" :: txI k :: (kO ++ wa ++ kC ++ post)) (by rw [hW]; simp) hi st
    subst hi
    obtain ⟨f1, f2⟩ := time_facts h0 h1
    have dg := digit_at (W := W) (i := ((pre.length : Nat) : Int) + 1) (pre := pre ++ k1 "repeat") (r := kO ++ wa ++ kC ++ post) st f1 f2 (by rw [hW]; simp) (len_snoc _ _)
    have b1 := brackets_at hF hd (W := W) (i := ((pre.length : Nat) : Int) + 2) (pre := pre ++ k2 "repeat" (txI k)) (post := post) st ha (by rw [hW]; simp) (len_two _ _ _)
    refine run_ret rfl ?_
    refine sq_step (as_at (call2 rfl rfl w) rfl) ?_
    refine sq_step (if_ff (wd_n (x := "repeat") st rfl (by decide +kernel)) rfl) ?_
    refine sq_ret (if_tt (wd_y (x := "repeat") st rfl (by decide +kernel)) ?_)
    refine sq_step (as_at (call3' rfl (bin_at rfl rfl (addD_i _ _)) rfl dg) rfl) ?_
    refine sq_step (as_at (call3' rfl (bin_at rfl rfl (addD_i _ _)) rfl b1) put2) ?_
    rw [show pre ++ (kRep k ++ wa ++ kC) = pre ++ k2 "repeat" (txI k) ++ (kO ++ wa ++ kC) by simp]
    exact rt_at (tup_at (cons_at (tup_at (cons_at rfl (cons_at rfl (cons_at rfl rfl)))) (cons_at rfl rfl)))
theorem step_at {d : D} {ws : List Str} (h : StW (n + 1) d ws) (he : EndS (hdW post)) (hW : W = pre ++ (ws ++ post)) (hi : i = (pre.length : Nat)) : F_read_step F [.lst (W.map .str), .int i, .int dep] st = some (.ok (.tup [d, .int ((pre ++ ws).length : Nat)]), st) := by
  have i2 : ∀ (x a b : Str) {Δ : Dl}, varP 3 Δ st = some (.ok (.str x), st) → tstP (binP inD (varP 3) (tupP (consP (cstP (.str a)) (consP (cstP (.str b)) nilP)))) Δ st = some (.ok (decide (x ∈ [a, b])), st) := fun x a b Δ hv => tst_at (bin_at hv rfl (in_tup x [a, b]))
  have i3 : ∀ (x a b c : Str) {Δ : Dl}, varP 3 Δ st = some (.ok (.str x), st) → tstP (binP inD (varP 3) (tupP (consP (cstP (.str a)) (consP (cstP (.str b)) (consP (cstP (.str c)) nilP))))) Δ st = some (.ok (decide (x ∈ [a, b, c])), st) := fun x a b c Δ hv => tst_at (bin_at hv rfl (in_tup x [a, b, c]))
  have comp : (∃ x r, ws = x :: r ∧ (x = "if" ∨ x = "repeat" ∨ x = "use")) → F_read_step F [.lst (W.map .str), .int i, .int dep] st = some (.ok (.tup [d, .int ((pre ++ ws).length : Nat)]), st) := fun hc => by
    have cp := compound_at hF hd st h hc he hW hi
    obtain ⟨x, r, ex, hx⟩ := hc
    have w := word_at (W := W) (pre := pre) (r := x :: (r ++ post)) (by rw [hW, ex]; simp) hi st
    have d2 : decide (x ∈ (["dual", "cut"] : List Str)) = false := by rcases hx with rfl | rfl | rfl <;> decide +kernel
    have d3 : decide (x ∈ (["delete", "contract", "top"] : List Str)) = false := by rcases hx with rfl | rfl | rfl <;> decide +kernel
    have c1 : chN x "rename" = true := by rcases hx with rfl | rfl | rfl <;> decide +kernel
    have c2 : chN x "extend" = true := by rcases hx with rfl | rfl | rfl <;> decide +kernel
    have c3 : chN x "truncate" = true := by rcases hx with rfl | rfl | rfl <;> decide +kernel
    have c4 : chN x "unite" = true := by rcases hx with rfl | rfl | rfl <;> decide +kernel
    refine run_ret rfl ?_
    refine sq_step (as_at (call2 rfl rfl w) rfl) ?_
    refine sq_step (if_ff ((i2 x "dual" "cut" rfl).trans (by rw [d2])) rfl) (sq_step (if_ff ((i3 x "delete" "contract" "top" rfl).trans (by rw [d3])) rfl) ?_)
    refine sq_step (if_ff (wd_n (x := x) st rfl c1) rfl) (sq_step (if_ff (wd_n (x := x) st rfl c2) rfl) (sq_step (if_ff (wd_n (x := x) st rfl c3) rfl) (sq_step (if_ff (wd_n (x := x) st rfl c4) rfl) ?_)))
    exact rt_at (call3' rfl rfl rfl cp)
  -- a word and a name
  have one : ∀ (w0 x : Str), ws = [w0, x] → d = .tup [.str w0, .str x] → NameS x → decide (w0 ∈ (["dual", "cut"] : List Str)) = false → decide (w0 ∈ (["delete", "contract", "top"] : List Str)) = true → F_read_step F [.lst (W.map .str), .int i, .int dep] st = some (.ok (.tup [d, .int ((pre ++ ws).length : Nat)]), st) := fun w0 x ew ed hx d2 d3 => by
    subst ew
    subst ed
    have w := word_at (W := W) (pre := pre) (r := w0 :: x :: post) (by rw [hW]; simp) hi st
    subst hi
    have nm := name_at (W := W) (i := ((pre.length : Nat) : Int) + 1) (pre := pre ++ [w0]) (r := post) st hx (by rw [hW]; simp) (len_snoc _ _)
    refine run_ret rfl ?_
    refine sq_step (as_at (call2 rfl rfl w) rfl) ?_
    refine sq_step (if_ff ((i2 w0 "dual" "cut" rfl).trans (by rw [d2])) rfl) ?_
    refine sq_ret (if_tt ((i3 w0 "delete" "contract" "top" rfl).trans (by rw [d3])) ?_)
    rw [← len_two]
    exact rt_at (tup_at (cons_at (tup_at (cons_at rfl (cons_at (call2 rfl (bin_at rfl rfl (addD_i _ _)) nm) rfl))) (cons_at (bin_at rfl rfl (addD_i _ _)) rfl)))
  have alone : ∀ (w0 : Str), ws = [w0] → d = .tup [.str w0] → decide (w0 ∈ (["dual", "cut"] : List Str)) = true → F_read_step F [.lst (W.map .str), .int i, .int dep] st = some (.ok (.tup [d, .int ((pre ++ ws).length : Nat)]), st) := fun w0 ew ed d2 => by
    subst ew
    subst ed
    have w := word_at (W := W) (pre := pre) (r := w0 :: post) (by rw [hW]; simp) hi st
    subst hi
    refine run_ret rfl ?_
    refine sq_step (as_at (call2 rfl rfl w) rfl) ?_
    refine sq_ret (if_tt ((i2 w0 "dual" "cut" rfl).trans (by rw [d2])) ?_)
    rw [← len_snoc]
    exact rt_at (tup_at (cons_at (tup_at (cons_at rfl rfl)) (cons_at (bin_at rfl rfl (addD_i _ _)) rfl)))
  have h' := h
  rcases h with h | ⟨t, tw, as, wa, bs, wb, ht, ha, hb, e1, e2⟩ | ⟨k, as, wa, h0, h1, ha, e1, e2⟩
  · cases h with
    | dual => exact alone _ rfl rfl (by decide +kernel)
    | cut => exact alone _ rfl rfl (by decide +kernel)
    | del hx => exact one _ _ rfl rfl hx (by decide +kernel) (by decide +kernel)
    | con hx => exact one _ _ rfl rfl hx (by decide +kernel) (by decide +kernel)
    | top hx => exact one _ _ rfl rfl hx (by decide +kernel) (by decide +kernel)
    | use hx h6 => exact comp ⟨_, _, rfl, .inr (.inr rfl)⟩
    | @ren x y hx hy =>
      have w := word_at (W := W) (pre := pre) (r := "rename" :: x :: y :: post) (by rw [hW]; simp) hi st
      subst hi
      have n1 := name_at (W := W) (i := ((pre.length : Nat) : Int) + 1) (pre := pre ++ k1 "rename") (r := y :: post) st hx (by rw [hW]; simp) (len_snoc _ _)
      have n2 := name_at (W := W) (i := ((pre.length : Nat) : Int) + 2) (pre := pre ++ k2 "rename" (x)) (r := post) st hy (by rw [hW]; simp) (len_two _ _ _)
      refine run_ret rfl ?_
      refine sq_step (as_at (call2 rfl rfl w) rfl) ?_
      refine sq_step (if_ff ((i2 "rename" "dual" "cut" rfl).trans (by rw [show decide (("rename" : Str) ∈ (["dual", "cut"] : List Str)) = false by decide +kernel])) rfl) (sq_step (if_ff ((i3 "rename" "delete" "contract" "top" rfl).trans (by rw [show decide (("rename" : Str) ∈ (["delete", "contract", "top"] : List Str)) = false by decide +kernel])) rfl) ?_)
      refine sq_ret (if_tt (wd_y (x := "rename") st rfl (by decide +kernel)) ?_)
      rw [← len_three]
      exact rt_at (tup_at (cons_at (tup_at (cons_at rfl (cons_at (call2 rfl (bin_at rfl rfl (addD_i _ _)) n1) (cons_at (call2 rfl (bin_at rfl rfl (addD_i _ _)) n2) rfl)))) (cons_at (bin_at rfl rfl (addD_i _ _)) rfl)))
    | @ext p g hp hg =>
      have w := word_at (W := W) (pre := pre) (r := "extend" :: p :: (g ++ post)) (by rw [hW]; simp) hi st
      subst hi
      have n1 := name_at (W := W) (i := ((pre.length : Nat) : Int) + 1) (pre := pre ++ k1 "extend") (r := g ++ post) st hp (by rw [hW]; simp) (len_snoc _ _)
      have gr := group_at (W := W) (i := ((pre.length : Nat) : Int) + 2) (pre := pre ++ k2 "extend" (p)) (post := post) st hg he.stop (by rw [hW]; simp) (len_two _ _ _)
      refine run_ret rfl ?_
      refine sq_step (as_at (call2 rfl rfl w) rfl) ?_
      refine sq_step (if_ff ((i2 "extend" "dual" "cut" rfl).trans (by rw [show decide (("extend" : Str) ∈ (["dual", "cut"] : List Str)) = false by decide +kernel])) rfl) (sq_step (if_ff ((i3 "extend" "delete" "contract" "top" rfl).trans (by rw [show decide (("extend" : Str) ∈ (["delete", "contract", "top"] : List Str)) = false by decide +kernel])) rfl) ?_)
      refine sq_step (if_ff (wd_n (x := "extend") st rfl (by decide +kernel)) rfl) ?_
      refine sq_ret (if_tt (wd_y (x := "extend") st rfl (by decide +kernel)) ?_)
      refine sq_step (as_at (call2 rfl (bin_at rfl rfl (addD_i _ _)) n1) rfl) ?_
      refine sq_step (as_at (call2 rfl (bin_at rfl rfl (addD_i _ _)) gr) put2) ?_
      rw [show pre ++ ("extend" : Str) :: p :: g = pre ++ k2 "extend" p ++ g by simp]
      exact rt_at (tup_at (cons_at (tup_at (cons_at rfl (cons_at rfl (cons_at rfl rfl)))) (cons_at rfl rfl)))
    | @tru g hg =>
      have w := word_at (W := W) (pre := pre) (r := "truncate" :: (g ++ post)) (by rw [hW]; simp) hi st
      subst hi
      have gr := group_at (W := W) (i := ((pre.length : Nat) : Int) + 1) (pre := pre ++ k1 "truncate") (post := post) st hg he.stop (by rw [hW]; simp) (len_snoc _ _)
      refine run_ret rfl ?_
      refine sq_step (as_at (call2 rfl rfl w) rfl) ?_
      refine sq_step (if_ff ((i2 "truncate" "dual" "cut" rfl).trans (by rw [show decide (("truncate" : Str) ∈ (["dual", "cut"] : List Str)) = false by decide +kernel])) rfl) (sq_step (if_ff ((i3 "truncate" "delete" "contract" "top" rfl).trans (by rw [show decide (("truncate" : Str) ∈ (["delete", "contract", "top"] : List Str)) = false by decide +kernel])) rfl) ?_)
      refine sq_step (if_ff (wd_n (x := "truncate") st rfl (by decide +kernel)) rfl) (sq_step (if_ff (wd_n (x := "truncate") st rfl (by decide +kernel)) rfl) ?_)
      refine sq_ret (if_tt (wd_y (x := "truncate") st rfl (by decide +kernel)) ?_)
      refine sq_step (as_at (call2 rfl (bin_at rfl rfl (addD_i _ _)) gr) put2) ?_
      rw [show pre ++ ("truncate" : Str) :: g = pre ++ k1 "truncate" ++ g by simp]
      exact rt_at (tup_at (cons_at (tup_at (cons_at rfl (cons_at rfl rfl))) (cons_at rfl rfl)))
    | @uni g gs hg hl =>
      have w := word_at (W := W) (pre := pre) (r := "unite" :: (sepW "," (g :: gs) ++ post)) (by rw [hW]; simp) hi st
      subst hi
      have gr := bases_at (W := W) (i := ((pre.length : Nat) : Int) + 1) (pre := pre ++ k1 "unite") (post := post) st hg hl he.stop he.cm (by rw [hW]; simp) (len_snoc _ _)
      refine run_ret rfl ?_
      refine sq_step (as_at (call2 rfl rfl w) rfl) ?_
      refine sq_step (if_ff ((i2 "unite" "dual" "cut" rfl).trans (by rw [show decide (("unite" : Str) ∈ (["dual", "cut"] : List Str)) = false by decide +kernel])) rfl) (sq_step (if_ff ((i3 "unite" "delete" "contract" "top" rfl).trans (by rw [show decide (("unite" : Str) ∈ (["delete", "contract", "top"] : List Str)) = false by decide +kernel])) rfl) ?_)
      refine sq_step (if_ff (wd_n (x := "unite") st rfl (by decide +kernel)) rfl) (sq_step (if_ff (wd_n (x := "unite") st rfl (by decide +kernel)) rfl) (sq_step (if_ff (wd_n (x := "unite") st rfl (by decide +kernel)) rfl) ?_))
      refine sq_ret (if_tt (wd_y (x := "unite") st rfl (by decide +kernel)) ?_)
      refine sq_step (as_at (call2 rfl (bin_at rfl rfl (addD_i _ _)) gr) put2) ?_
      rw [show pre ++ ("unite" : Str) :: sepW "," (g :: gs) = pre ++ k1 "unite" ++ sepW "," (g :: gs) by simp]
      exact rt_at (tup_at (cons_at (tup_at (cons_at rfl (cons_at rfl rfl))) (cons_at rfl rfl)))
  · exact comp ⟨"if", _, e2, .inl rfl⟩
  · exact comp ⟨"repeat", _, e2, .inr (.inl rfl)⟩
end
end Dn

set_option Elab.async false
set_option linter.all false
set_option maxRecDepth 100000
set_option maxHeartbeats 4000000
namespace Dn
open PySem PySem.Spec PyProof.Rows L2
theorem SsOf.len {R : D → List Str → Prop} {m : Nat} {ds : List D} {ws : List Str} (h : SsOf R m ds ws) : ds.length ≤ m := by
  obtain ⟨ps, rfl, _, _, l⟩ := h
  rw [List.length_map]; exact l
abbrev semB (F : FDen) : SDen := (sqP (asP (.tup [3, 1]) (callP (F_read_step F) (consP (varP 0) (consP (binP addD (varP 1) (cstP (.int 1))) (consP (varP 2) nilP))))) (asP (.one 4) (binP addD (varP 4) (tupP (consP (varP 3) nilP)))))
abbrev semC : TDen := (tstP (binP eqD (callP F_word (consP (varP 0) (consP (varP 1) nilP))) (cstP (.str ";"))))
theorem some_loop {F : FDen} {n dep : Nat} (hF : RdB F n dep) (hd : dep < 20) {W post : List Str} (he : EndS (hdW post)) (hc : chN (hdW post) ";" = true) (st : Sta) : ∀ (ps : List (D × List Str)) (p0 : List Str) (done : List D) (k : Nat) (x3 : Option D), (∀ p ∈ ps, StW (n + 1) p.1 p.2) → done.length + ps.length ≤ 100 → W = p0 ++ ((ps.flatMap fun p => wSm :: p.2) ++ post) → ps.length < k →
    ∃ y3, whGo semC (semB F) k [some (.lst (W.map .str)), some (.int (p0.length : Nat)), some (.int dep), x3, some (.tup done)] st = some (.ok (.nx [some (.lst (W.map .str)), some (.int ((p0 ++ ps.flatMap fun p => wSm :: p.2).length : Nat)), some (.int dep), y3, some (.tup (done ++ ps.map (·.1)))]), st)
  | [], p0, done, k + 1, x3, _, _, hW, hn => by
    rw [List.flatMap_nil, List.nil_append] at hW
    refine ⟨x3, ?_⟩
    rw [List.flatMap_nil, List.append_nil, List.map_nil, List.append_nil]
    exact wh_ff (tst_at (bin_at (call2 rfl rfl (word_at hW rfl st)) rfl (eq_n hc)))
  | p :: ps, p0, done, k + 1, x3, hp, hl, hW, hn => by
    rw [List.length_cons] at hn hl
    have hW1 : W = (p0 ++ [wSm]) ++ (p.2 ++ ((ps.flatMap fun p => wSm :: p.2) ++ post)) := by rw [hW, List.flatMap_cons]; simp
    have hst : EndS (hdW ((ps.flatMap fun p => wSm :: p.2) ++ post)) := by
      cases ps with
      | nil => rw [List.flatMap_nil, List.nil_append]; exact he
      | cons h gs => rw [List.flatMap_cons]; exact endS_semi
    have sp := step_at hF hd (W := W) (pre := p0 ++ [wSm]) (i := ((p0.length : Nat) : Int) + 1) st (hp p List.mem_cons_self) hst hW1 (len_snoc _ _)
    obtain ⟨y3, q⟩ := some_loop (W := W) hF hd he hc st ps (p0 ++ [wSm] ++ p.2) (done ++ [p.1]) k (some p.1) (fun h hh => hp h (List.mem_cons_of_mem _ hh)) (by rw [List.length_append, List.length_singleton]; omega) (by rw [hW1]; simp) (by omega)
    refine ⟨y3, ?_⟩
    rw [show p0 ++ (p :: ps).flatMap (fun p => wSm :: p.2) = p0 ++ [wSm] ++ p.2 ++ ps.flatMap fun p => wSm :: p.2 by rw [List.flatMap_cons]; simp, show done ++ (p :: ps).map (·.1) = done ++ [p.1] ++ ps.map (·.1) by simp]
    have hW0 : W = p0 ++ wSm :: (p.2 ++ ((ps.flatMap fun p => wSm :: p.2) ++ post)) := by rw [hW1]; simp
    refine wh_tt (st1 := st) (st2 := st) (tst_at (bin_at (call2 rfl rfl (word_at hW0 rfl st)) rfl (eq_y (x := wSm) (by decide +kernel)))) ?_ q
    refine sq_step (as_at (call3' rfl (bin_at rfl rfl (addD_i _ _)) rfl sp) put2) ?_
    exact as_at (bin_at rfl (tup_at (cons_at rfl rfl)) (addT (by rw [List.length_singleton]; unfold big; omega))) rfl
theorem some_at : ∀ (n k dep : Nat) {m : Nat} {as : List D} {wa pre post W : List Str} {i : Int} (st : Sta), n < k → n + dep ≤ 20 → m ≤ 12 → as ≠ [] → SsOf (StW n) m as wa → EndS (hdW post) → chN (hdW post) ";" = true → W = pre ++ (wa ++ post) → i = (pre.length : Nat) → F_read_some k [.lst (W.map .str), .int i, .int dep] st = some (.ok (.tup [.tup as, .int ((pre ++ wa).length : Nat)]), st)
  | 0, k, dep, m, as, wa, pre, post, W, i, st, _, _, _, ne, h, _, _, _, _ => by
    obtain ⟨ps, e, _, hp, _⟩ := h
    cases ps with
    | nil => exact absurd e ne
    | cons p ps => exact (hp p List.mem_cons_self).elim
  | n + 1, k + 1, dep, m, as, wa, pre, post, W, i, st, hk, hd, hm, ne, h, he, hc, hW, hi => by
    obtain ⟨ps, rfl, rfl, hp, hl⟩ := h
    cases ps with
    | nil => exact absurd rfl ne
    | cons p ps =>
      subst hi
      have hF : RdB (F_read_some k) n dep := fun as wa pre post W i st ne h hcl hW hi => by
        have := some_at n k (dep + 1) (m := 5) (post := post) st (by omega) (by omega) (by decide) ne h (by rw [hcl]; exact endS_close) (by rw [hcl]; decide +kernel) hW hi
        rw [show ((dep + 1 : Nat) : Int) = (dep : Int) + 1 by omega] at this
        exact this
      have hd' : dep < 20 := by omega
      rw [List.length_cons] at hl
      have sw : sepW ";" ((p :: ps).map (·.2)) = p.2 ++ ps.flatMap fun p => wSm :: p.2 := by
        rw [List.map_cons]
        show p.2 ++ (ps.map (·.2)).flatMap (fun v => wSm :: v) = _
        rw [List.flatMap_map]
      rw [sw] at hW ⊢
      have hst : EndS (hdW ((ps.flatMap fun p => wSm :: p.2) ++ post)) := by
        cases ps with
        | nil => rw [List.flatMap_nil, List.nil_append]; exact he
        | cons h gs => rw [List.flatMap_cons]; exact endS_semi
      have sp := step_at hF hd' (W := W) (pre := pre) (i := ((pre.length : Nat) : Int)) st (hp p List.mem_cons_self) hst (by rw [hW]; simp) rfl
      obtain ⟨y3, q⟩ := some_loop (W := W) hF hd' he hc st ps (pre ++ p.2) [p.1] whN (some p.1) (fun h hh => hp h (List.mem_cons_of_mem _ hh)) (by rw [List.length_singleton]; omega) (by rw [hW]; simp) (by unfold whN; omega)
      refine run_ret rfl ?_
      refine sq_step (as_at (call3' rfl rfl rfl sp) put2) ?_
      refine sq_step (as_at (tup_at (cons_at rfl rfl)) rfl) ?_
      refine sq_step (show whP _ _ _ _ = _ from q) ?_
      rw [show pre ++ (p.2 ++ ps.flatMap fun p => wSm :: p.2) = pre ++ p.2 ++ ps.flatMap fun p => wSm :: p.2 by simp]
      exact rt_at (tup_at (cons_at rfl (cons_at rfl rfl)))
/-! texts -/
theorem okC_app (x y : Str) : okC (x ++ y) = (okC x && okC y) := by
  show ((x.cps ++ y.cps).all _) = _
  rw [Array.all_append]
  rfl
theorem okC_join : ∀ ws : List Str, (∀ x ∈ ws, okT x) → okC (Txt.join " " ws) = true := by
  have key : ∀ ws : List Str, (∀ x ∈ ws, okT x) → okC (Str.join " " ws) = true := by
    intro ws
    induction ws with
    | nil => intro _; decide +kernel
    | cons x ws ih =>
      intro h
      cases ws with
      | nil => exact (h x List.mem_cons_self).c
      | cons y r =>
        show okC (x ++ " " ++ Str.join " " (y :: r)) = true
        rw [okC_app, okC_app, (h x List.mem_cons_self).c, ih fun z hz => h z (List.mem_cons_of_mem _ hz), show okC " " = true by decide +kernel]
        rfl
  intro ws h
  rw [TL.join_eq]
  exact key ws h
theorem sum8 : ∀ {ws : List Str}, (∀ x ∈ ws, okT x) → (ws.map (·.length)).sum ≤ ws.length * 8
  | [], _ => by simp
  | w :: ws, ok => by
    have a := sum8 fun x hx => ok x (List.mem_cons_of_mem _ hx)
    have b := (ok w List.mem_cons_self).len
    rw [List.map_cons, List.sum_cons, List.length_cons, Nat.succ_mul]
    omega
theorem join_len {ws : List Str} (ok : ∀ x ∈ ws, okT x) (hl : ws.length ≤ 40000) : (Txt.join " " ws).length ≤ 400000 := by
  have a := StrLaws.join_length_le " " ws
  have b := sum8 ok
  rw [TL.join_eq]
  have c : (" " : Str).length = 1 := rfl
  rw [c] at a
  omega
theorem pl_join {n : Nat} {ws : List Str} (ok : ∀ x ∈ ws, okT x) (hl : ws.length ≤ 40000) : Pl n (.str (Txt.join " " ws)) := .str (okC_join ws ok) (Nat.le_trans (join_len ok hl) (by decide))
theorem join_ne {x : Str} {ws : List Str} (hx : okT x) : Txt.join " " (x :: ws) ≠ "" := fun e => by
  have l : 1 ≤ (Txt.join " " (x :: ws)).length := by
    rw [TL.join_eq]
    cases ws with
    | nil => exact hx.ne
    | cons y r =>
      show 1 ≤ (x ++ " " ++ Str.join " " (y :: r)).length
      rw [len_app, len_app]
      have := hx.ne
      omega
  rw [e] at l
  exact absurd l (by decide +kernel)
theorem split_ok {ws : List Str} (ne : ws ≠ []) (ok : ∀ x ∈ ws, okT x) : Txt.split (Txt.join " " ws) " " = ws :=
  TL.split_join (s := 32) (S := []) (by decide +kernel) (by decide +kernel) ne fun p hp hm => by
    have := List.all_eq_true.mp (ok p hp).sp 32 hm
    exact absurd this (by decide)
theorem read_ok {n m : Nat} {ds : List D} {ws : List Str} (hn : n ≤ 20) (hm : m ≤ 12) (h : SsOf (StW n) m ds ws) (ok : ∀ x ∈ ws, okT x) (hl : ws.length ≤ 40000) (st : Sta) : F_read_steps [.str (Txt.join " " ws)] st = some (.ok (.tup ds), st) := by
  have pl := pl_join (n := 0) ok hl
  refine run_ret rfl ?_
  refine sq_step (if_ff (st1 := st) (not_at (b := true) (by simp only [gd, runD, callP, kwF, pick, rtP, sqP, asP, parP, nxP, ifP, andV, orV, notV, andT, orT, notT, truP, tstP, truD, isiP, isisP, isTys, isNP, notNP, isNon, varP, chP, cstP, bltP, binP, consP, nilP, lstP, tupP, lcP, itP, rng1P, rng2P, slP, noP, soP, intOf, negP, sosP, bd_ok, List.map, List.replicate, List.length_cons, List.length_nil, List.cons_append, List.nil_append, List.append_nil, List.getElem?_cons_zero, List.getElem?_cons_succ, List.filterMap, List.set, omap_some, obind_some, isTy, blOf, if_t, if_f, lenF, leD_i, leD_s, ltD_i, ltD_s, gtD_i, geD_i, addD_i, subD_i, mulD_i, itemsD, wipeD, Tgt.put, setAll, outR, lb0, lb1, lb2, lb3, lb4, lb5, lb6, lb7, lb8, lb9, lb10, lb11, lb12, allF, listF, tupleF, intF, eq_self_iff_true, if_true, if_false, decide_true, decide_false, Bool.true_and, Bool.false_and, Bool.and_true, Bool.and_false, Bool.not_true, Bool.not_false, Nat.sub_self, Nat.reduceAdd, Nat.reduceSub, Nat.reduceEqDiff])) rfl) ?_
  cases hd : ds with
  | nil =>
    obtain ⟨ps, e, rfl, _, _⟩ := h
    have : ps = [] := by cases ps with
      | nil => rfl
      | cons _ _ => rw [hd] at e; cases e
    subst this
    refine sq_ret (if_tt (st1 := st) (tst_at (bin_at rfl rfl (?_ : eqD (.str (Txt.join " " [])) (.str "") = some (.bl true)))) rfl)
    rw [show Txt.join " " [] = "" by decide +kernel]
    exact eq_y (by decide +kernel)
  | cons d ds' =>
    have ne : ds ≠ [] := by rw [hd]; exact List.cons_ne_nil _ _
    obtain ⟨x, r, ex⟩ : ∃ x r, ws = x :: r := by
      obtain ⟨ps, e, rfl, hp, _⟩ := h
      cases ps with
      | nil => exact absurd e ne
      | cons p ps =>
        obtain ⟨x, r, e1, e2⟩ := (hp p List.mem_cons_self).first
        exact ⟨x, r ++ (ps.map (·.2)).flatMap fun v => wSm :: v, by rw [List.map_cons]; show p.2 ++ _ = _; rw [e1]; rfl⟩
    have hx : okT x := ok x (by rw [ex]; exact List.mem_cons_self)
    have nt : Txt.join " " ws ≠ "" := by rw [ex]; exact join_ne hx
    have hc : chN (Txt.join " " ws) "" = true := by
      unfold chN
      rw [okC_join ws ok, show okC "" = true by decide +kernel, decide_eq_false nt]
      rfl
    have sp := split_ok (ws := ws) (by rw [ex]; exact List.cons_ne_nil _ _) ok
    have rd := some_at n 24 0 (pre := []) (post := []) (W := ws) (i := 0) st (by omega) (by omega) hm ne h endS_none (by decide +kernel) (by simp) rfl
    rw [← hd]
    refine sq_step (if_ff (st1 := st) (tst_at (bin_at rfl rfl (eq_n hc))) rfl) ?_
    refine sq_step (st1 := st) (Δ1 := [some (.str (Txt.join " " ws)), some (.lst (ws.map .str)), none, none]) (as_at (d := .lst (ws.map .str)) (by
      unfold splP
      show bd (some (Except.ok (D.str (Txt.join " " ws)), st)) _ = _
      rw [bd_ok]
      unfold splF
      simp only
      rw [if_pos (Nat.le_trans (join_len ok hl) (by decide)), sp]
      rfl) rfl) ?_
    refine sq_step (as_at (call3' rfl rfl rfl rd) put2) ?_
    refine sq_step (if_ff (st1 := st) (tst_at (bin_at rfl (blt_at (d := .int (ws.length : Nat)) (cons_at rfl rfl) (by show some (D.int ((ws.map D.str).length : Nat)) = _; rw [List.length_map])) (by rw [ltD_i, List.nil_append, decide_eq_false (by omega)]))) rfl) ?_
    rfl
end Dn

set_option Elab.async false
set_option linter.all false
set_option maxRecDepth 100000
set_option maxHeartbeats 4000000
namespace Dn
open PySem PySem.Spec PyProof.Rows L2
/-! ### steps as plain data -/
theorem pl_tup {n : Nat} {ds : List D} (h : ∀ x ∈ ds, Pl n x) (hl : ds.length ≤ 100) : Pl (n + 1) (.tup ds) := .tup h (Nat.le_trans hl (by decide))
theorem pl_lst {n : Nat} {ds : List D} (h : ∀ x ∈ ds, Pl n x) (hl : ds.length ≤ 100) : Pl (n + 1) (.lst ds) := .lst h (Nat.le_trans hl (by decide))
theorem pl_c {n : Nat} {d : D} {ds : List D} (h : Pl n d) (t : ∀ x ∈ ds, Pl n x) : ∀ x ∈ d :: ds, Pl n x := fun x hx => by
  rcases List.mem_cons.mp hx with rfl | hx
  · exact h
  · exact t x hx
theorem pl_n {n : Nat} : ∀ x ∈ ([] : List D), Pl n x := fun x hx => absurd hx List.not_mem_nil
theorem pl_tn {n : Nat} {x : Str} (h : NameS x) : Pl n (.str x) := pl_txt (okT_name h)
theorem PlW.pl {d : D} {w : List Str} (h : PlW d w) : Pl 3 d := by
  have lit : ∀ {x : Str}, okT x → Pl 2 (.str x) := fun h => pl_txt h
  cases h with
  | dual => exact pl_tup (pl_c (lit (by decide +kernel)) pl_n) (by simp)
  | cut => exact pl_tup (pl_c (lit (by decide +kernel)) pl_n) (by simp)
  | del x => exact pl_tup (pl_c (lit (by decide +kernel)) (pl_c (pl_tn x) pl_n)) (by simp)
  | con x => exact pl_tup (pl_c (lit (by decide +kernel)) (pl_c (pl_tn x) pl_n)) (by simp)
  | top x => exact pl_tup (pl_c (lit (by decide +kernel)) (pl_c (pl_tn x) pl_n)) (by simp)
  | use x _ => exact pl_tup (pl_c (lit (by decide +kernel)) (pl_c (lit x) pl_n)) (by simp)
  | ren x y => exact pl_tup (pl_c (lit (by decide +kernel)) (pl_c (pl_tn x) (pl_c (pl_tn y) pl_n))) (by simp)
  | ext p g => exact pl_tup (pl_c (lit (by decide +kernel)) (pl_c (pl_tn p) (pl_c (pl_grp g) pl_n))) (by simp)
  | tru g => exact pl_tup (pl_c (lit (by decide +kernel)) (pl_c (pl_grp g) pl_n)) (by simp)
  | uni hg hl =>
    refine pl_tup (pl_c (lit (by decide +kernel)) (pl_c (pl_tup (fun x hx => ?_) (by rw [List.length_map, List.length_cons]; omega)) pl_n)) (by simp)
    obtain ⟨g, hg', rfl⟩ := List.mem_map.mp hx
    exact pl_grp (hg g hg')
theorem SsOf.pl {R : D → List Str → Prop} {m n : Nat} {ds : List D} {ws : List Str} (h : SsOf R m ds ws) (hm : m ≤ 100) (hR : ∀ d w, R d w → Pl n d) : Pl (n + 1) (.tup ds) := by
  obtain ⟨ps, rfl, _, hp, hl⟩ := h
  refine pl_tup (fun x hx => ?_) (by rw [List.length_map]; omega)
  obtain ⟨p, hpm, rfl⟩ := List.mem_map.mp hx
  exact hR _ _ (hp p hpm)
theorem StW.pl : ∀ {n : Nat} {d : D} {ws : List Str}, StW n d ws → Pl (2 * n + 3) d
  | n + 1, d, ws, .inl h => h.pl.mono (by omega)
  | n + 1, d, ws, .inr (.inl ⟨t, tw, as, wa, bs, wb, ht, ha, hb, e1, e2⟩) => by
    subst e1
    have a := ha.pl (by decide) fun _ _ => StW.pl
    have b := hb.pl (by decide) fun _ _ => StW.pl
    rw [show 2 * (n + 1) + 3 = (2 * n + 3 + 1) + 1 by omega]
    exact pl_tup (pl_c (pl_txt (by decide +kernel)) (pl_c (ht.pl.mono (by omega)) (pl_c a (pl_c b pl_n)))) (by simp)
  | n + 1, d, ws, .inr (.inr ⟨i, as, wa, h0, h1, ha, e1, e2⟩) => by
    subst e1
    have a := ha.pl (by decide) fun _ _ => StW.pl
    rw [show 2 * (n + 1) + 3 = (2 * n + 3 + 1) + 1 by omega]
    exact pl_tup (pl_c (pl_txt (by decide +kernel)) (pl_c (.int _) (pl_c a pl_n))) (by simp)
/-! ### the law -/
theorem lst2_at {ta tb : EDen} {Δ : Dl} {s0 s1 s2 : Sta} {x y : D} (h1 : ta Δ s0 = some (.ok x, s1)) (h2 : tb Δ s1 = some (.ok y, s2)) : lstP (consP ta (consP tb nilP)) Δ s0 = some (.ok (.lst [x, y]), s2) := by
  unfold lstP
  rw [cons_at h1 (cons_at h2 rfl), bd_ok]
  rfl
def turn : SDen := (sqP (asP (.one 7) (callP F_l_mixed (consP (varP 1) (consP (callP F_l_names (consP (varP 1) (consP (cstP (.int 6)) nilP))) nilP))))
    (sqP (asP (.one 8) (callP F_l_all_steps (consP (varP 1) (consP (slP (varP 7) noP (soP (callP F_l_pull (consP (varP 1) (consP (cstP (.int 4)) nilP))))) (consP (slP (varP 7) (soP (cstP (.int 3))) (soP (binP addD (cstP (.int 3)) (callP F_l_pull (consP (varP 1) (consP (cstP (.int 4)) nilP)))))) nilP)))))
    (sqP (asP (.one 4) (callP F_l_text (consP (varP 8) nilP)))
    (sqP (ifP (notT (truP (callP (F_l_same 48) (consP (lstP (consP (callP F_read_steps (consP (varP 4) nilP)) (consP (callP (kwF 1 [0] F_read_steps) (consP (callP F_text_of (consP (varP 8) nilP)) nilP)) nilP))) (consP (lstP (consP (varP 8) (consP (varP 8) nilP))) nilP))))) (rtP (cstP (.bl false))) nxP)
    (ifP (tstP (binP neD (callP F_text_of (consP (callP F_read_steps (consP (varP 4) nilP)) nilP)) (varP 4))) (rtP (cstP (.bl false))) nxP)))))
def deepB : SDen := (parP 3 4 (consP (tupP (consP (tupP (consP (cstP (.str "repeat")) (consP (cstP (.int 1)) (consP (varP 3) nilP)))) nilP)) (consP (binP addD (binP addD (cstP (.str "repeat 1 ( ")) (ifP (tstP (binP neD (varP 4) (cstP (.str "")))) (binP addD (varP 4) (cstP (.str " "))) (cstP (.str "")))) (cstP (.str ")"))) nilP)))
def lastA : SDen := (asP (.one 6) (lstP (consP (callP F_read_steps (consP (cstP (.str "")) nilP)) (consP (callP F_read_steps (consP (cstP (.str "unite")) nilP)) (consP (callP F_read_steps (consP (cstP (.str "unite , a")) nilP)) (consP (callP F_read_steps (consP (cstP (.str "truncate cut ; use cut")) nilP)) (consP (callP F_read_steps (consP (cstP (.str "cut")) nilP)) nilP)))))))
def lastB : SDen := (rtP (callP (F_l_same 48) (consP (varP 6) (consP (lstP (consP (tupP nilP) (consP (tupP (consP (tupP (consP (cstP (.str "unite")) (consP (tupP (consP (tupP nilP) nilP)) nilP))) nilP)) (consP (tupP (consP (tupP (consP (cstP (.str "unite")) (consP (tupP (consP (tupP nilP) (consP (tupP (consP (cstP (.str "a")) nilP)) nilP))) nilP))) nilP)) (consP (tupP (consP (tupP (consP (cstP (.str "truncate")) (consP (tupP (consP (cstP (.str "cut")) nilP)) nilP))) (consP (tupP (consP (cstP (.str "use")) (consP (cstP (.str "cut")) nilP))) nilP))) (consP (tupP (consP (tupP (consP (cstP (.str "cut")) nilP)) nilP)) nilP)))))) nilP))))
theorem law_parts : d_law = (sqP (asP (.one 1) (callP F_l_bag (consP (varP 0) nilP))) (sqP (foP (rng1P (consP (cstP (.int 4)) nilP)) (.one 2) turn) (sqP (asP (.tup [3, 4]) (tupP (consP (tupP nilP) (consP (cstP (.str "")) nilP)))) (sqP (foP (rng1P (consP (cstP (.int 20)) nilP)) (.one 5) deepB) (sqP (ifP (notT (truP (callP (F_l_same 48) (consP (callP F_read_steps (consP (varP 4) nilP)) (consP (varP 3) nilP))))) (rtP (cstP (.bl false))) nxP) (sqP lastA lastB)))))) := rfl
theorem turn_ok (x0 x2 x3 x4 x5 x6 x7 x8 : Option D) (b : BagSt) (scr : Option (Addr × List Int)) (own : List (Nat × Cell)) (nx : Nat) (hb : okB b) :
    ∃ (x4' x7' x8' : Option D) (b' : BagSt) (own' : List (Nat × Cell)) (nx' : Nat), turn [x0, some (.hnd 0), x2, x3, x4, x5, x6, x7, x8] ⟨some b, scr, own, nx⟩ = some (.ok (.nx [x0, some (.hnd 0), x2, x3, x4', x5, x6, x7', x8']), ⟨some b', scr, own', nx'⟩) ∧ okB b' := by
  obtain ⟨zs, b1, p1, lz, nm, hb1, nd⟩ := names_ok b scr own nx 6 hb (by decide) (by decide)
  have lz6 : zs.length = 6 := lz
  obtain ⟨ys, b2, own2, nx2, p2, pm, hb2⟩ := mixed_ok b1 scr own nx zs hb1 (by omega)
  have ly : ys.length = 6 := by rw [pm.length_eq, lz6]
  have ynm : ∀ z ∈ ys, NameS z := fun z hz => nm z (pm.mem_iff.mp hz)
  have ynd : ys.Nodup := pm.nodup_iff.mpr (nd (by decide))
  obtain ⟨k, b3, p3, k0, k1, hb3⟩ := pull_ok b2 scr own2 nx2 4 hb2 (by decide) (by decide)
  obtain ⟨n, rfl⟩ : ∃ n : Nat, k = n := ⟨k.toNat, by omega⟩
  obtain ⟨j, b4, p4, j0, j1, hb4⟩ := pull_ok b3 scr own2 nx2 4 hb3 (by decide) (by decide)
  have tk : cutL (ys.map D.str) none (some (n : Int)) = (ys.take n).map .str := by rw [cut_take _ _ (by rw [List.length_map]; omega), List.map_take]
  obtain ⟨fs, efs, sfs, lf⟩ : ∃ fs : List Str, cutL (ys.map D.str) (some 3) (some (3 + j)) = fs.map .str ∧ fs.Sublist (ys.drop 3) ∧ fs.length ≤ 3 := by
    have e1 : HT.sIx (ys.map D.str).length 0 (some 3) = 3 := by
      rw [show (some (3 : Int)) = some ((3 : Nat) : Int) from rfl, HT.sIx_nat, List.length_map, ly]; rfl
    refine ⟨(ys.drop 3).take (HT.sIx (ys.map D.str).length (ys.map D.str).length (some (3 + j)) - 3), ?_, List.take_sublist _ _, ?_⟩
    · unfold cutL
      rw [e1, List.map_take, List.map_drop]
    · rw [List.length_take, List.length_drop]; omega
  have lt : (ys.take n).length ≤ 3 := by rw [List.length_take]; omega
  have so := sort_okW (ys.take n) (by omega)
  have t3 : (ys.take n).Sublist (ys.take 3) := by
    rw [show ys.take n = (ys.take 3).take n by rw [List.take_take]; congr 1; omega]
    exact List.take_sublist _ _
  have I : InvN 3 (srtS (ys.take n)) := .sort (fun z hz => ynm z (List.mem_of_mem_take hz)) lt (ynd.sublist (List.take_sublist _ _))
  have sp3 : (ys.take 3 ++ ys.drop 3).Nodup := by rw [List.take_append_drop]; exact ynd
  obtain ⟨ds, b5, own5, nx5, p5, L, hb5⟩ := all_ok (scr := scr) (own := own2) (nx := nx2) b4 hb4 I so (fs := fs) (fun z hz => ynm z (List.mem_of_mem_drop (sfs.subset hz))) ((ynd.sublist (List.drop_sublist _ _)).sublist sfs)
    (fun z hz hw => (List.nodup_append.mp sp3).2.2 z (t3.subset (srt_mem.mp hw)) z (sfs.subset hz) rfl) lf (by decide)
  obtain ⟨ws, hws⟩ := L.ss
  have tx := fun st => texts_ok (n := 3) (m := 12) (by decide) (by decide) hws st
  let T : Str := Txt.join " " ws
  let s5 : Sta := ⟨some b5, scr, own5, nx5⟩
  have rd := read_ok (n := 3) (m := 12) (by decide) (by decide) hws (tx s5).2.2.1 (tx s5).2.2.2 s5
  have pd : Pl 11 (.lst [.tup ds, .tup ds]) := by
    have := hws.pl (n := 9) (by decide) fun _ _ => StW.pl
    exact pl_lst (pl_c this (pl_c this pl_n)) (by simp)
  refine ⟨some (.str T), some (.lst (ys.map .str)), some (.tup ds), b5, own5, nx5, ?_, hb5⟩
  unfold turn
  refine sq_step (st1 := ⟨some b2, scr, own2, nx2⟩) (Δ1 := [x0, some (.hnd 0), x2, x3, x4, x5, x6, some (.lst (ys.map .str)), x8]) (as_at (call2 rfl (call2 rfl rfl p1) p2) rfl) ?_
  refine sq_step (st1 := s5) (Δ1 := [x0, some (.hnd 0), x2, x3, x4, x5, x6, some (.lst (ys.map .str)), some (.tup ds)]) (as_at (call3' rfl (by
    show slP (varP 7) noP (soP (callP F_l_pull (consP (varP 1) (consP (cstP (.int 4)) nilP)))) [x0, some (.hnd 0), x2, x3, x4, x5, x6, some (.lst (ys.map .str)), x8] ⟨some b2, scr, own2, nx2⟩ = some (.ok (.lst ((ys.take n).map .str)), ⟨some b3, scr, own2, nx2⟩)
    simp only [gd, runD, callP, kwF, pick, rtP, sqP, asP, parP, nxP, ifP, andV, orV, notV, andT, orT, notT, truP, tstP, truD, isiP, isisP, isTys, isNP, notNP, isNon, varP, chP, cstP, bltP, binP, consP, nilP, lstP, tupP, lcP, itP, rng1P, rng2P, slP, noP, soP, intOf, negP, sosP, bd_ok, List.map, List.replicate, List.length_cons, List.length_nil, List.cons_append, List.nil_append, List.append_nil, List.getElem?_cons_zero, List.getElem?_cons_succ, List.filterMap, List.set, omap_some, obind_some, isTy, blOf, if_t, if_f, lenF, leD_i, leD_s, ltD_i, ltD_s, gtD_i, geD_i, addD_i, subD_i, mulD_i, itemsD, wipeD, Tgt.put, setAll, outR, lb0, lb1, lb2, lb3, lb4, lb5, lb6, lb7, lb8, lb9, lb10, lb11, lb12, allF, listF, tupleF, intF, eq_self_iff_true, if_true, if_false, decide_true, decide_false, Bool.true_and, Bool.false_and, Bool.and_true, Bool.and_false, Bool.not_true, Bool.not_false, Nat.sub_self, Nat.reduceAdd, Nat.reduceSub, Nat.reduceEqDiff, p3, slD, tk]) (by
    show slP (varP 7) (soP (cstP (.int 3))) (soP (binP addD (cstP (.int 3)) (callP F_l_pull (consP (varP 1) (consP (cstP (.int 4)) nilP))))) [x0, some (.hnd 0), x2, x3, x4, x5, x6, some (.lst (ys.map .str)), x8] ⟨some b3, scr, own2, nx2⟩ = some (.ok (.lst (fs.map .str)), ⟨some b4, scr, own2, nx2⟩)
    simp only [gd, runD, callP, kwF, pick, rtP, sqP, asP, parP, nxP, ifP, andV, orV, notV, andT, orT, notT, truP, tstP, truD, isiP, isisP, isTys, isNP, notNP, isNon, varP, chP, cstP, bltP, binP, consP, nilP, lstP, tupP, lcP, itP, rng1P, rng2P, slP, noP, soP, intOf, negP, sosP, bd_ok, List.map, List.replicate, List.length_cons, List.length_nil, List.cons_append, List.nil_append, List.append_nil, List.getElem?_cons_zero, List.getElem?_cons_succ, List.filterMap, List.set, omap_some, obind_some, isTy, blOf, if_t, if_f, lenF, leD_i, leD_s, ltD_i, ltD_s, gtD_i, geD_i, addD_i, subD_i, mulD_i, itemsD, wipeD, Tgt.put, setAll, outR, lb0, lb1, lb2, lb3, lb4, lb5, lb6, lb7, lb8, lb9, lb10, lb11, lb12, allF, listF, tupleF, intF, eq_self_iff_true, if_true, if_false, decide_true, decide_false, Bool.true_and, Bool.false_and, Bool.and_true, Bool.and_false, Bool.not_true, Bool.not_false, Nat.sub_self, Nat.reduceAdd, Nat.reduceSub, Nat.reduceEqDiff, p4, slD, efs]) p5) rfl) ?_
  refine sq_step (st1 := s5) (Δ1 := [x0, some (.hnd 0), x2, x3, some (.str T), x5, x6, some (.lst (ys.map .str)), some (.tup ds)]) (as_at (call1 rfl (tx s5).2.1) rfl) ?_
  refine sq_step (if_ff (not_at (b := true) (st1 := s5) (tru_at (call2 (lst2_at (call1 rfl rd) (call1 (call1 rfl (tx s5).1) (by
    show kwF 1 [0] F_read_steps [.str T] s5 = some (.ok (.tup ds), s5)
    exact rd))) (lst2_at rfl rfl) (same_refl pd 48 s5 (by decide) (by decide))))) rfl) ?_
  exact if_ff (st1 := s5) (tst_at (bin_at (call1 (call1 rfl rd) (tx s5).1) rfl ((pl_join (n := 0) (tx s5).2.2.1 (tx s5).2.2.2).neD (by decide)))) rfl
/-! brackets, twenty deep -/
def deepD : Nat → List D
  | 0 => []
  | k + 1 => [.tup [.str "repeat", .int 1, .tup (deepD k)]]
abbrev kR1 : List Str := ["repeat", "1", "("]
def deepW : Nat → List Str
  | 0 => []
  | k + 1 => kR1 ++ deepW k ++ kC
theorem tx1 : txI 1 = "1" := by decide +kernel
theorem deep_ss : ∀ k, SsOf (StW k) 1 (deepD k) (deepW k)
  | 0 => ⟨[], rfl, rfl, fun p hp => absurd hp List.not_mem_nil, by decide⟩
  | k + 1 => ⟨[(.tup [.str "repeat", .int 1, .tup (deepD k)], deepW (k + 1))], rfl, by show deepW (k + 1) = deepW (k + 1) ++ []; rw [List.append_nil], fun p hp => by
    rw [List.mem_singleton.mp hp]
    refine .inr (.inr ⟨1, deepD k, deepW k, by decide, by decide, (deep_ss k).mono (by decide), rfl, ?_⟩)
    show kR1 ++ deepW k ++ kC = kRep 1 ++ deepW k ++ kC
    unfold kRep
    rw [tx1], Nat.le_refl _⟩
theorem deep_ok : ∀ k, (∀ x ∈ deepW k, okT x) ∧ (deepW k).length = 4 * k
  | 0 => ⟨all_nil, rfl⟩
  | k + 1 => by
    obtain ⟨a, b⟩ := deep_ok k
    refine ⟨all_app (all_app (all_cons (by decide +kernel) (all_cons (by decide +kernel) (all_cons (by decide +kernel) all_nil))) a) (all_cons (by decide +kernel) all_nil), ?_⟩
    show (kR1 ++ deepW k ++ kC).length = _
    rw [List.length_append, List.length_append, b]
    simp only [List.length_cons, List.length_nil]
    omega
theorem sapp_assoc (x y z : Str) : x ++ y ++ z = x ++ (y ++ z) := by
  show (⟨(x.cps ++ y.cps) ++ z.cps⟩ : Str) = ⟨x.cps ++ (y.cps ++ z.cps)⟩
  rw [Array.append_assoc]
theorem sjoin_snoc (z : Str) : ∀ (x : Str) (ws : List Str), Str.join " " ((x :: ws) ++ [z]) = Str.join " " (x :: ws) ++ " " ++ z
  | x, [] => rfl
  | x, y :: ws => by
    show x ++ " " ++ Str.join " " ((y :: ws) ++ [z]) = x ++ " " ++ Str.join " " (y :: ws) ++ " " ++ z
    rw [sjoin_snoc z y ws, sapp_assoc, sapp_assoc, sapp_assoc, sapp_assoc, sapp_assoc]
theorem deep_txt (k : Nat) (x : Str) (r : List Str) (e : deepW k = x :: r) : Txt.join " " (deepW (k + 1)) = ("repeat 1 ( " : Str) ++ (Txt.join " " (deepW k) ++ " ") ++ ")" := by
  show Txt.join " " (kR1 ++ deepW k ++ kC) = _
  rw [TL.join_eq, TL.join_eq, e]
  show Str.join " " ("repeat" :: "1" :: "(" :: ((x :: r) ++ [(")" : Str)])) = _
  show ("repeat" : Str) ++ " " ++ (("1" : Str) ++ " " ++ (("(" : Str) ++ " " ++ Str.join " " ((x :: r) ++ [(")" : Str)]))) = _
  rw [sjoin_snoc, show ("repeat 1 ( " : Str) = ("repeat" : Str) ++ " " ++ (("1" : Str) ++ " " ++ (("(" : Str) ++ " ")) by decide +kernel]
  simp only [sapp_assoc]
theorem deep_txt0 : Txt.join " " (deepW 1) = ("repeat 1 ( " : Str) ++ "" ++ ")" := by decide +kernel
theorem addStr {x y : Str} (h : x.length + y.length ≤ 1000000) : addD (.str x) (.str y) = some (.str (x ++ y)) := if_pos h
theorem deep_loop (x0 x1 x2 x6 x7 x8 : Option D) (st : Sta) (x5 : Option D) :
    ∃ y5, foGo (.one 5) deepB ((List.range 20).map fun k => D.int (k : Nat)) [x0, x1, x2, some (.tup []), some (.str ""), x5, x6, x7, x8] st = some (.ok (.nx [x0, x1, x2, some (.tup (deepD 20)), some (.str (Txt.join " " (deepW 20))), y5, x6, x7, x8]), st) := by
  obtain ⟨Δ', st', q, fin⟩ := fo_inv (g := .one 5) (tb := deepB) (fun k Δ s' => k ≤ 20 → ∃ y5 : Option D, Δ = [x0, x1, x2, some (.tup (deepD k)), some (.str (Txt.join " " (deepW k))), y5, x6, x7, x8] ∧ s' = st) ((List.range 20).map fun k => D.int (k : Nat)) 0
    [x0, x1, x2, some (.tup []), some (.str ""), x5, x6, x7, x8] st (fun _ => ⟨x5, by rw [show Txt.join " " (deepW 0) = "" by decide +kernel]; rfl, rfl⟩) (fun i d hd Δ s' hp => by
      have hi : i < 20 := by
        obtain ⟨h, _⟩ := List.getElem?_eq_some_iff.mp hd
        rw [List.length_map, List.length_range] at h
        exact h
      obtain ⟨y5, e1, e2⟩ := hp (by omega)
      rw [Nat.zero_add] at e1 ⊢
      subst e1
      subst e2
      obtain ⟨ok, ln⟩ := deep_ok i
      have jl := join_len ok (by omega)
      have tt : binP addD (binP addD (cstP (.str "repeat 1 ( ")) (ifP (tstP (binP neD (varP 4) (cstP (.str "")))) (binP addD (varP 4) (cstP (.str " "))) (cstP (.str "")))) (cstP (.str ")")) [x0, x1, x2, some (.tup (deepD i)), some (.str (Txt.join " " (deepW i))), some d, x6, x7, x8] s' = some (.ok (.str (Txt.join " " (deepW (i + 1)))), s') := by
        cases hw : deepW i with
        | nil =>
          have i0 : i = 0 := by rw [hw] at ln; simp at ln; omega
          subst i0
          rw [deep_txt0]
          have e0 : Txt.join " " ([] : List Str) = "" := by decide +kernel
          rw [e0]
          exact bin_at (bin_at rfl (if_ff (st1 := s') (tst_at (bin_at rfl rfl (ne_y (x := "") (by decide +kernel)))) rfl) (addStr (by decide +kernel))) rfl (addStr (by decide +kernel))
        | cons x r =>
          rw [deep_txt i x r hw, hw]
          have hx : okT x := ok x (by rw [hw]; exact List.mem_cons_self)
          rw [hw] at jl ok
          have nt := join_ne (ws := r) hx
          have hc : chN (Txt.join " " (x :: r)) "" = true := by
            unfold chN
            rw [okC_join _ ok, show okC "" = true by decide +kernel, decide_eq_false nt]
            rfl
          have l1 : ("repeat 1 ( " : Str).length = 11 := by decide +kernel
          have l2 : (" " : Str).length = 1 := by decide +kernel
          have l3 : (")" : Str).length = 1 := by decide +kernel
          exact bin_at (bin_at rfl (if_tt (st1 := s') (tst_at (bin_at rfl rfl (ne_n hc))) (bin_at rfl rfl (addStr (by rw [l2]; omega)))) (addStr (by rw [len_app, l1, l2]; omega))) rfl (addStr (by rw [len_app, len_app, l1, l2, l3]; omega))
      refine ⟨[x0, x1, x2, some (.tup (deepD i)), some (.str (Txt.join " " (deepW i))), some d, x6, x7, x8], [x0, x1, x2, some (.tup (deepD (i + 1))), some (.str (Txt.join " " (deepW (i + 1)))), some d, x6, x7, x8], s', rfl, ?_, fun _ => ⟨some d, rfl, rfl⟩⟩
      unfold deepB parP
      rw [cons_at (tup_at (cons_at (tup_at (cons_at rfl (cons_at rfl (cons_at rfl rfl)))) rfl)) (cons_at tt rfl), bd_ok]
      rfl)
  obtain ⟨y5, e1, e2⟩ := fin (by decide)
  subst e1
  subst e2
  exact ⟨y5, q⟩
/-! the last texts -/
theorem ss_one {n : Nat} {d : D} {w : List Str} (h : StW n d w) : SsOf (StW n) 12 [d] w := ⟨[(d, w)], rfl, by show w = w ++ []; rw [List.append_nil], fun p hp => by rw [List.mem_singleton.mp hp]; exact h, by simp⟩
theorem na : NameS "a" := ⟨by decide +kernel, by decide +kernel, by decide +kernel⟩
theorem ncut : NameS "cut" := ⟨by decide +kernel, by decide +kernel, by decide +kernel⟩
theorem g0 : Grp [] := ⟨fun z hz => absurd hz List.not_mem_nil, by decide, .nil⟩
theorem g1 {x : Str} (h : NameS x) : Grp [x] := ⟨fun z hz => by rw [List.mem_singleton.mp hz]; exact h, by simp, List.pairwise_singleton _ _⟩
abbrev L1 : List D := [.tup [.str "unite", .tup [.tup []]]]
abbrev L2' : List D := [.tup [.str "unite", .tup [.tup [], .tup [.str "a"]]]]
abbrev L3 : List D := [.tup [.str "truncate", .tup [.str "cut"]], .tup [.str "use", .str "cut"]]
abbrev L4 : List D := [.tup [.str "cut"]]
abbrev W1 : List Str := ["unite"]
abbrev W2 : List Str := ["unite", ",", "a"]
abbrev W3 : List Str := ["truncate", "cut", ";", "use", "cut"]
abbrev W4 : List Str := ["cut"]
theorem s1 : SsOf (StW 1) 12 L1 W1 := ss_one (.inl (.uni (g := []) (gs := []) (fun h hh => by rw [List.mem_singleton.mp hh]; exact g0) (by decide)))
theorem s2 : SsOf (StW 1) 12 L2' W2 := ss_one (.inl (.uni (g := []) (gs := [["a"]]) (fun h hh => by
  rcases List.mem_cons.mp hh with rfl | hh
  · exact g0
  · rw [List.mem_singleton.mp hh]; exact g1 na) (by decide)))
theorem s3 : SsOf (StW 1) 12 L3 W3 := ⟨[(.tup [.str "truncate", .tup [.str "cut"]], ["truncate", "cut"]), (.tup [.str "use", .str "cut"], ["use", "cut"])], rfl, rfl, fun p hp => by
  rcases List.mem_cons.mp hp with rfl | hp
  · exact .inl (.tru (g := ["cut"]) (g1 ncut))
  · rw [List.mem_singleton.mp hp]; exact .inl (.use (by decide +kernel) (by decide +kernel)), by decide⟩
theorem s4 : SsOf (StW 1) 12 L4 W4 := ss_one (.inl .cut)
theorem s0 : SsOf (StW 1) 12 [] [] := ⟨[], rfl, rfl, fun p hp => absurd hp List.not_mem_nil, by decide⟩
theorem last_ok (x0 x1 x2 x3 x4 x5 x6 x7 x8 : Option D) (st : Sta) : sqP lastA lastB [x0, x1, x2, x3, x4, x5, x6, x7, x8] st = some (.ok (.rt (.bl true)), st) := by
  have r0 := read_ok (by decide) (by decide) s0 (fun x hx => absurd hx List.not_mem_nil) (by decide) st
  have r1 := read_ok (by decide) (by decide) s1 (fun x hx => by revert x; decide +kernel) (by decide) st
  have r2 := read_ok (by decide) (by decide) s2 (fun x hx => by revert x; decide +kernel) (by decide) st
  have r3 := read_ok (by decide) (by decide) s3 (fun x hx => by revert x; decide +kernel) (by decide) st
  have r4 := read_ok (by decide) (by decide) s4 (fun x hx => by revert x; decide +kernel) (by decide) st
  rw [show Txt.join " " ([] : List Str) = "" by decide +kernel] at r0
  rw [show Txt.join " " W1 = "unite" by decide +kernel] at r1
  rw [show Txt.join " " W2 = "unite , a" by decide +kernel] at r2
  rw [show Txt.join " " W3 = "truncate cut ; use cut" by decide +kernel] at r3
  rw [show Txt.join " " W4 = "cut" by decide +kernel] at r4
  have P := fun (ds : List D) (ws : List Str) (h : SsOf (StW 1) 12 ds ws) => h.pl (n := 5) (by decide) fun _ _ => StW.pl
  have pl : Pl 7 (.lst [.tup [], .tup L1, .tup L2', .tup L3, .tup L4]) := pl_lst (pl_c (P _ _ s0) (pl_c (P _ _ s1) (pl_c (P _ _ s2) (pl_c (P _ _ s3) (pl_c (P _ _ s4) pl_n))))) (by simp)
  refine sq_step (st1 := st) (Δ1 := [x0, x1, x2, x3, x4, x5, some (.lst [.tup [], .tup L1, .tup L2', .tup L3, .tup L4]), x7, x8]) (as_at (d := .lst [.tup [], .tup L1, .tup L2', .tup L3, .tup L4]) (by
    unfold lstP
    rw [cons_at (call1 rfl r0) (cons_at (call1 rfl r1) (cons_at (call1 rfl r2) (cons_at (call1 rfl r3) (cons_at (call1 rfl r4) rfl)))), bd_ok]
    rfl) rfl) ?_
  exact rt_at (call2 (x := .lst [.tup [], .tup L1, .tup L2', .tup L3, .tup L4]) rfl (st2 := st) (y := .lst [.tup [], .tup L1, .tup L2', .tup L3, .tup L4]) rfl (same_refl pl 48 st (by decide) (by decide)))
theorem law_true (C : Nat → Addr) (a : Addr) (ns : List Int) (h : ns.length ≤ 63) : ∃ b own nx, F_law [.opq (.ref a)] ⟨none, some (a, ns), [], 0⟩ = some (.ok (.bl true), ⟨b, some (a, ns), own, nx⟩) := by
  obtain ⟨b0, hb0, p0⟩ : ∃ b0, okB b0 ∧ F_l_bag [.opq (.ref a)] ⟨none, some (a, ns), [], 0⟩ = some (.ok (.hnd 0), ⟨some b0, some (a, ns), [], 0⟩) := by
    refine ⟨⟨ns, 0, 0, 10038 + ns.length, 0⟩, ⟨by show (0 : Int) ≤ 10038 + ((ns.length : Nat) : Int); omega, by show 10038 + ((ns.length : Nat) : Int) < (4294967296 : Int); omega⟩, ?_⟩
    show bagF 10038 _ _ = _
    unfold bagF
    simp only
    rw [if_pos ⟨trivial, h⟩]
  obtain ⟨Δ', st', q, x2, x4, x7, x8, b, own, nx, _, e1, e2⟩ := fo_inv (g := .one 2) (tb := turn) (fun _ Δ st => ∃ (x2 x4 x7 x8 : Option D) (b : BagSt) (own : List (Nat × Cell)) (nx : Nat), okB b ∧ Δ = [some (.opq (.ref a)), some (.hnd 0), x2, none, x4, none, none, x7, x8] ∧ st = ⟨some b, some (a, ns), own, nx⟩) ((List.range 4).map fun k => D.int (k : Nat)) 0
    [some (.opq (.ref a)), some (.hnd 0), none, none, none, none, none, none, none] ⟨some b0, some (a, ns), [], 0⟩ ⟨none, none, none, none, b0, [], 0, hb0, rfl, rfl⟩ (fun i d hd Δ st ⟨x2, x4, x7, x8, b, own, nx, hb, e1, e2⟩ => by
      subst e1
      subst e2
      obtain ⟨y4, y7, y8, b', own', nx', q, hb'⟩ := turn_ok (some (.opq (.ref a))) (some d) none x4 none none x7 x8 b (some (a, ns)) own nx hb
      exact ⟨_, _, _, rfl, q, some d, y4, y7, y8, b', own', nx', hb', rfl, rfl⟩)
  subst e1
  subst e2
  obtain ⟨y5, dp⟩ := deep_loop (some (.opq (.ref a))) (some (.hnd 0)) x2 none x7 x8 ⟨some b, some (a, ns), own, nx⟩ none
  have rd := read_ok (n := 20) (m := 12) (by decide) (by decide) ((deep_ss 20).mono (by decide)) (deep_ok 20).1 (by rw [(deep_ok 20).2]; decide) ⟨some b, some (a, ns), own, nx⟩
  have pl := (deep_ss 20).pl (n := 43) (by decide) fun _ _ => StW.pl
  refine ⟨some b, own, nx, run_ret rfl ?_⟩
  rw [law_parts]
  refine sq_step (st1 := ⟨some b0, some (a, ns), [], 0⟩) (Δ1 := [some (.opq (.ref a)), some (.hnd 0), none, none, none, none, none, none, none]) (as_at (call1 rfl p0) rfl) ?_
  refine sq_step (by unfold foP; rw [rng1_at (ds := [.int 4]) (st1 := ⟨some b0, some (a, ns), [], 0⟩) (cons_at rfl rfl) (rngN' 4 (by decide)), bd_ok]; exact q) ?_
  refine sq_step (st1 := ⟨some b, some (a, ns), own, nx⟩) (Δ1 := [some (.opq (.ref a)), some (.hnd 0), x2, some (.tup []), some (.str ""), none, none, x7, x8]) rfl ?_
  refine sq_step (by unfold foP; rw [rng1_at (ds := [.int 20]) (st1 := ⟨some b, some (a, ns), own, nx⟩) (cons_at rfl rfl) (rngN' 20 (by decide)), bd_ok]; exact dp) ?_
  refine sq_step (if_ff (not_at (b := true) (st1 := ⟨some b, some (a, ns), own, nx⟩) (tru_at (call2 (call1 rfl rd) rfl (same_refl pl 48 _ (by decide) (by decide))))) rfl) ?_
  exact last_ok _ _ _ _ _ _ _ _ _ _
end Dn

set_option Elab.async false
set_option linter.all false
set_option maxRecDepth 100000
set_option maxHeartbeats 8000000
namespace Dn
open PySem PySem.Spec PyProof.Rows L2
theorem all_mk {P : Program} {w : World} {K : PySem.W.Frag} {h : Heap} {mg : Str → Option Value} {fa f0 f1 f2 f3 f4 f5 f6 f7 f8 f9 f10 f11 f12 f13 f14 f15 f16 f17 f18 f19 f20 f21 f22 f23 f24 f25 f26 f27 f28 f29 f30 f31 f32 f33 f34 f35 f36 f37 f38 f39 f40 KT_RANKS KT_TIMES : Addr} (X : K.In h) (G : h.Ns mainGlobals mg) (hfa : mg "law" = some (.ref fa))
    {od0 an0 od1 an1 od2 an2 od3 an3 od4 an4 od5 an5 od6 an6 od7 an7 od8 an8 od9 an9 od10 an10 od11 an11 od12 an12 od13 an13 od14 an14 od15 an15 od16 an16 od17 an17 od18 an18 od19 an19 od20 an20 od21 an21 od22 an22 od23 an23 od24 an24 od25 an25 od26 an26 od27 an27 od28 an28 od29 an29 od30 an30 od31 an31 od32 an32 od33 an33 od34 an34 od35 an35 od36 an36 od37 an37 od38 an38 od39 an39 od40 an40 : Option Addr} {sl0 sl1 sl2 sl3 sl4 sl5 sl6 sl7 sl8 sl9 sl10 sl11 sl12 sl13 sl14 sl15 sl16 sl17 sl18 sl19 sl20 sl21 sl22 sl23 sl24 sl25 sl26 sl27 sl28 sl29 sl30 sl31 sl32 sl33 sl34 sl35 sl36 sl37 sl38 sl39 sl40 : Array (Option Value)} {oc0 dc0 pm0 cd0 ct0 kV0 oc1 dc1 pm1 cd1 ct1 kV1 oc2 dc2 pm2 cd2 ct2 kV2 oc3 dc3 pm3 cd3 ct3 kV3 oc4 dc4 pm4 cd4 ct4 kV4 oc5 dc5 pm5 cd5 ct5 kV5 oc6 dc6 pm6 cd6 ct6 kV6 oc7 dc7 pm7 cd7 ct7 kV7 oc8 dc8 pm8 cd8 ct8 kV8 oc9 dc9 pm9 cd9 ct9 kV9 oc10 dc10 pm10 cd10 ct10 kV10 oc11 dc11 pm11 cd11 ct11 kV11 oc12 dc12 pm12 cd12 ct12 kV12 oc13 dc13 pm13 cd13 ct13 kV13 oc14 dc14 pm14 cd14 ct14 kV14 oc15 dc15 pm15 cd15 ct15 kV15 oc16 dc16 pm16 cd16 ct16 kV16 oc17 dc17 pm17 cd17 ct17 kV17 oc18 dc18 pm18 cd18 ct18 kV18 oc19 dc19 pm19 cd19 ct19 kV19 oc20 dc20 pm20 cd20 ct20 kV20 oc21 dc21 pm21 cd21 ct21 kV21 oc22 dc22 pm22 cd22 ct22 kV22 oc23 dc23 pm23 cd23 ct23 kV23 oc24 dc24 pm24 cd24 ct24 kV24 oc25 dc25 pm25 cd25 ct25 kV25 oc26 dc26 pm26 cd26 ct26 kV26 oc27 dc27 pm27 cd27 ct27 kV27 oc28 dc28 pm28 cd28 ct28 kV28 oc29 dc29 pm29 cd29 ct29 kV29 oc30 dc30 pm30 cd30 ct30 kV30 oc31 dc31 pm31 cd31 ct31 kV31 oc32 dc32 pm32 cd32 ct32 kV32 oc33 dc33 pm33 cd33 ct33 kV33 oc34 dc34 pm34 cd34 ct34 kV34 oc35 dc35 pm35 cd35 ct35 kV35 oc36 dc36 pm36 cd36 ct36 kV36 oc37 dc37 pm37 cd37 ct37 kV37 oc38 dc38 pm38 cd38 ct38 kV38 oc39 dc39 pm39 cd39 ct39 kV39 oc40 dc40 pm40 cd40 ct40 kV40 : Value} {td_RANKS : Option Addr} {tn_RANKS : Nat} {ts_RANKS : Array (Option Value)} {kt_RANKS_0 : Tok} {kt_RANKS_1 : Tok} {kt_RANKS_2 : Tok} {kt_RANKS_3 : Tok} {kt_RANKS_4 : Tok} {kt_RANKS_5 : Tok} {kt_RANKS_6 : Tok} {kt_MOST_OPEN : Tok} {td_TIMES : Option Addr} {tn_TIMES : Nat} {ts_TIMES : Array (Option Value)} {kt_TIMES_0 : Tok} {kt_TIMES_1 : Tok} {kt_TIMES_2 : Tok} {kt_TIMES_3 : Tok}
    (a0 : PySem.W.nsIn K mainGlobals "_law_bag" = some (some (.ref f0)))
    (l0 : K.lookup f0 = some ⟨oc0, od0, .func (PySem.W.fnOf "_law_bag" "_law_bag" (defArgs s_l_bag) (defBody s_l_bag) (defScope s_l_bag) .none kV0 dc0 pm0 an0 cd0 ct0), sl0⟩)
    (c0 : PySem.W.codeIn K cd0 "_law_bag" = true)
    (k0 : PySem.W.keepIn K (.ref f0) = true)
    (a1 : PySem.W.nsIn K mainGlobals "_law_pull" = some (some (.ref f1)))
    (l1 : K.lookup f1 = some ⟨oc1, od1, .func (PySem.W.fnOf "_law_pull" "_law_pull" (defArgs s_l_pull) (defBody s_l_pull) (defScope s_l_pull) .none kV1 dc1 pm1 an1 cd1 ct1), sl1⟩)
    (c1 : PySem.W.codeIn K cd1 "_law_pull" = true)
    (k1 : PySem.W.keepIn K (.ref f1) = true)
    (a2 : PySem.W.nsIn K mainGlobals "_law_mixed" = some (some (.ref f2)))
    (l2 : K.lookup f2 = some ⟨oc2, od2, .func (PySem.W.fnOf "_law_mixed" "_law_mixed" (defArgs s_l_mixed) (defBody s_l_mixed) (defScope s_l_mixed) .none kV2 dc2 pm2 an2 cd2 ct2), sl2⟩)
    (c2 : PySem.W.codeIn K cd2 "_law_mixed" = true)
    (k2 : PySem.W.keepIn K (.ref f2) = true)
    (a3 : PySem.W.nsIn K mainGlobals "_law_any" = some (some (.ref f3)))
    (l3 : K.lookup f3 = some ⟨oc3, od3, .func (PySem.W.fnOf "_law_any" "_law_any" (defArgs s_l_any) (defBody s_l_any) (defScope s_l_any) .none kV3 dc3 pm3 an3 cd3 ct3), sl3⟩)
    (c3 : PySem.W.codeIn K cd3 "_law_any" = true)
    (k3 : PySem.W.keepIn K (.ref f3) = true)
    (a4 : PySem.W.nsIn K mainGlobals "_law_names" = some (some (.ref f4)))
    (l4 : K.lookup f4 = some ⟨oc4, od4, .func (PySem.W.fnOf "_law_names" "_law_names" (defArgs s_l_names) (defBody s_l_names) (defScope s_l_names) .none kV4 dc4 pm4 an4 cd4 ct4), sl4⟩)
    (c4 : PySem.W.codeIn K cd4 "_law_names" = true)
    (k4 : PySem.W.keepIn K (.ref f4) = true)
    (a5 : PySem.W.nsIn K mainGlobals "_law_group" = some (some (.ref f5)))
    (l5 : K.lookup f5 = some ⟨oc5, od5, .func (PySem.W.fnOf "_law_group" "_law_group" (defArgs s_l_group) (defBody s_l_group) (defScope s_l_group) .none kV5 dc5 pm5 an5 cd5 ct5), sl5⟩)
    (c5 : PySem.W.codeIn K cd5 "_law_group" = true)
    (k5 : PySem.W.keepIn K (.ref f5) = true)
    (a6 : PySem.W.nsIn K mainGlobals "_law_bases" = some (some (.ref f6)))
    (l6 : K.lookup f6 = some ⟨oc6, od6, .func (PySem.W.fnOf "_law_bases" "_law_bases" (defArgs s_l_bases) (defBody s_l_bases) (defScope s_l_bases) .none kV6 dc6 pm6 an6 cd6 ct6), sl6⟩)
    (c6 : PySem.W.codeIn K cd6 "_law_bases" = true)
    (k6 : PySem.W.keepIn K (.ref f6) = true)
    (a7 : PySem.W.nsIn K mainGlobals "_law_step" = some (some (.ref f7)))
    (l7 : K.lookup f7 = some ⟨oc7, od7, .func (PySem.W.fnOf "_law_step" "_law_step" (defArgs s_l_step) (defBody s_l_step) (defScope s_l_step) .none kV7 dc7 pm7 an7 cd7 ct7), sl7⟩)
    (c7 : PySem.W.codeIn K cd7 "_law_step" = true)
    (k7 : PySem.W.keepIn K (.ref f7) = true)
    (a8 : PySem.W.nsIn K mainGlobals "_law_ends" = some (some (.ref f8)))
    (l8 : K.lookup f8 = some ⟨oc8, od8, .func (PySem.W.fnOf "_law_ends" "_law_ends" (defArgs s_l_ends) (defBody s_l_ends) (defScope s_l_ends) .none kV8 dc8 pm8 an8 cd8 ct8), sl8⟩)
    (c8 : PySem.W.codeIn K cd8 "_law_ends" = true)
    (k8 : PySem.W.keepIn K (.ref f8) = true)
    (a9 : PySem.W.nsIn K mainGlobals "_law_plain" = some (some (.ref f9)))
    (l9 : K.lookup f9 = some ⟨oc9, od9, .func (PySem.W.fnOf "_law_plain" "_law_plain" (defArgs s_l_plain) (defBody s_l_plain) (defScope s_l_plain) .none kV9 dc9 pm9 an9 cd9 ct9), sl9⟩)
    (c9 : PySem.W.codeIn K cd9 "_law_plain" = true)
    (k9 : PySem.W.keepIn K (.ref f9) = true)
    (a10 : PySem.W.nsIn K mainGlobals "_law_test" = some (some (.ref f10)))
    (l10 : K.lookup f10 = some ⟨oc10, od10, .func (PySem.W.fnOf "_law_test" "_law_test" (defArgs s_l_test) (defBody s_l_test) (defScope s_l_test) .none kV10 dc10 pm10 an10 cd10 ct10), sl10⟩)
    (c10 : PySem.W.codeIn K cd10 "_law_test" = true)
    (k10 : PySem.W.keepIn K (.ref f10) = true)
    (a11 : PySem.W.nsIn K mainGlobals "_law_still" = some (some (.ref f11)))
    (l11 : K.lookup f11 = some ⟨oc11, od11, .func (PySem.W.fnOf "_law_still" "_law_still" (defArgs s_l_still) (defBody s_l_still) (defScope s_l_still) .none kV11 dc11 pm11 an11 cd11 ct11), sl11⟩)
    (c11 : PySem.W.codeIn K cd11 "_law_still" = true)
    (k11 : PySem.W.keepIn K (.ref f11) = true)
    (a12 : PySem.W.nsIn K mainGlobals "_law_body" = some (some (.ref f12)))
    (l12 : K.lookup f12 = some ⟨oc12, od12, .func (PySem.W.fnOf "_law_body" "_law_body" (defArgs s_l_body) (defBody s_l_body) (defScope s_l_body) .none kV12 dc12 pm12 an12 cd12 ct12), sl12⟩)
    (c12 : PySem.W.codeIn K cd12 "_law_body" = true)
    (k12 : PySem.W.keepIn K (.ref f12) = true)
    (a13 : PySem.W.nsIn K mainGlobals "_law_all_steps" = some (some (.ref f13)))
    (l13 : K.lookup f13 = some ⟨oc13, od13, .func (PySem.W.fnOf "_law_all_steps" "_law_all_steps" (defArgs s_l_all_steps) (defBody s_l_all_steps) (defScope s_l_all_steps) .none kV13 dc13 pm13 an13 cd13 ct13), sl13⟩)
    (c13 : PySem.W.codeIn K cd13 "_law_all_steps" = true)
    (k13 : PySem.W.keepIn K (.ref f13) = true)
    (a14 : PySem.W.nsIn K mainGlobals "_law_test_words" = some (some (.ref f14)))
    (l14 : K.lookup f14 = some ⟨oc14, od14, .func (PySem.W.fnOf "_law_test_words" "_law_test_words" (defArgs s_l_test_words) (defBody s_l_test_words) (defScope s_l_test_words) .none kV14 dc14 pm14 an14 cd14 ct14), sl14⟩)
    (c14 : PySem.W.codeIn K cd14 "_law_test_words" = true)
    (k14 : PySem.W.keepIn K (.ref f14) = true)
    (a15 : PySem.W.nsIn K mainGlobals "_law_step_words" = some (some (.ref f15)))
    (l15 : K.lookup f15 = some ⟨oc15, od15, .func (PySem.W.fnOf "_law_step_words" "_law_step_words" (defArgs s_l_step_words) (defBody s_l_step_words) (defScope s_l_step_words) .none kV15 dc15 pm15 an15 cd15 ct15), sl15⟩)
    (c15 : PySem.W.codeIn K cd15 "_law_step_words" = true)
    (k15 : PySem.W.keepIn K (.ref f15) = true)
    (a16 : PySem.W.nsIn K mainGlobals "_law_words" = some (some (.ref f16)))
    (l16 : K.lookup f16 = some ⟨oc16, od16, .func (PySem.W.fnOf "_law_words" "_law_words" (defArgs s_l_words) (defBody s_l_words) (defScope s_l_words) .none kV16 dc16 pm16 an16 cd16 ct16), sl16⟩)
    (c16 : PySem.W.codeIn K cd16 "_law_words" = true)
    (k16 : PySem.W.keepIn K (.ref f16) = true)
    (a17 : PySem.W.nsIn K mainGlobals "_law_text" = some (some (.ref f17)))
    (l17 : K.lookup f17 = some ⟨oc17, od17, .func (PySem.W.fnOf "_law_text" "_law_text" (defArgs s_l_text) (defBody s_l_text) (defScope s_l_text) .none kV17 dc17 pm17 an17 cd17 ct17), sl17⟩)
    (c17 : PySem.W.codeIn K cd17 "_law_text" = true)
    (k17 : PySem.W.keepIn K (.ref f17) = true)
    (a18 : PySem.W.nsIn K mainGlobals "_law_same" = some (some (.ref f18)))
    (l18 : K.lookup f18 = some ⟨oc18, od18, .func (PySem.W.fnOf "_law_same" "_law_same" (defArgs s_l_same) (defBody s_l_same) (defScope s_l_same) .none kV18 dc18 pm18 an18 cd18 ct18), sl18⟩)
    (c18 : PySem.W.codeIn K cd18 "_law_same" = true)
    (k18 : PySem.W.keepIn K (.ref f18) = true)
    (a19 : PySem.W.nsIn K mainGlobals "_word" = some (some (.ref f19)))
    (l19 : K.lookup f19 = some ⟨oc19, od19, .func (PySem.W.fnOf "_word" "_word" (defArgs s_word) (defBody s_word) (defScope s_word) .none kV19 dc19 pm19 an19 cd19 ct19), sl19⟩)
    (c19 : PySem.W.codeIn K cd19 "_word" = true)
    (k19 : PySem.W.keepIn K (.ref f19) = true)
    (a20 : PySem.W.nsIn K mainGlobals "_is_word" = some (some (.ref f20)))
    (l20 : K.lookup f20 = some ⟨oc20, od20, .func (PySem.W.fnOf "_is_word" "_is_word" (defArgs s_is_word) (defBody s_is_word) (defScope s_is_word) .none kV20 dc20 pm20 an20 cd20 ct20), sl20⟩)
    (c20 : PySem.W.codeIn K cd20 "_is_word" = true)
    (k20 : PySem.W.keepIn K (.ref f20) = true)
    (a21 : PySem.W.nsIn K mainGlobals "is_name" = some (some (.ref f21)))
    (l21 : K.lookup f21 = some ⟨oc21, od21, .func (PySem.W.fnOf "is_name" "is_name" (defArgs s_is_name) (defBody s_is_name) (defScope s_is_name) .none kV21 dc21 pm21 an21 cd21 ct21), sl21⟩)
    (c21 : PySem.W.codeIn K cd21 "is_name" = true)
    (k21 : PySem.W.keepIn K (.ref f21) = true)
    (a22 : PySem.W.nsIn K mainGlobals "_read_name" = some (some (.ref f22)))
    (l22 : K.lookup f22 = some ⟨oc22, od22, .func (PySem.W.fnOf "_read_name" "_read_name" (defArgs s_read_name) (defBody s_read_name) (defScope s_read_name) .none kV22 dc22 pm22 an22 cd22 ct22), sl22⟩)
    (c22 : PySem.W.codeIn K cd22 "_read_name" = true)
    (k22 : PySem.W.keepIn K (.ref f22) = true)
    (a23 : PySem.W.nsIn K mainGlobals "_read_group" = some (some (.ref f23)))
    (l23 : K.lookup f23 = some ⟨oc23, od23, .func (PySem.W.fnOf "_read_group" "_read_group" (defArgs s_read_group) (defBody s_read_group) (defScope s_read_group) .none kV23 dc23 pm23 an23 cd23 ct23), sl23⟩)
    (c23 : PySem.W.codeIn K cd23 "_read_group" = true)
    (k23 : PySem.W.keepIn K (.ref f23) = true)
    (a24 : PySem.W.nsIn K mainGlobals "_read_bases" = some (some (.ref f24)))
    (l24 : K.lookup f24 = some ⟨oc24, od24, .func (PySem.W.fnOf "_read_bases" "_read_bases" (defArgs s_read_bases) (defBody s_read_bases) (defScope s_read_bases) .none kV24 dc24 pm24 an24 cd24 ct24), sl24⟩)
    (c24 : PySem.W.codeIn K cd24 "_read_bases" = true)
    (k24 : PySem.W.keepIn K (.ref f24) = true)
    (a25 : PySem.W.nsIn K mainGlobals "_read_digit" = some (some (.ref f25)))
    (l25 : K.lookup f25 = some ⟨oc25, od25, .func (PySem.W.fnOf "_read_digit" "_read_digit" (defArgs s_read_digit) (defBody s_read_digit) (defScope s_read_digit) .none kV25 dc25 pm25 an25 cd25 ct25), sl25⟩)
    (c25 : PySem.W.codeIn K cd25 "_read_digit" = true)
    (k25 : PySem.W.keepIn K (.ref f25) = true)
    (a26 : PySem.W.nsIn K mainGlobals "_read_test" = some (some (.ref f26)))
    (l26 : K.lookup f26 = some ⟨oc26, od26, .func (PySem.W.fnOf "_read_test" "_read_test" (defArgs s_read_test) (defBody s_read_test) (defScope s_read_test) .none kV26 dc26 pm26 an26 cd26 ct26), sl26⟩)
    (c26 : PySem.W.codeIn K cd26 "_read_test" = true)
    (k26 : PySem.W.keepIn K (.ref f26) = true)
    (a27 : PySem.W.nsIn K mainGlobals "_read_brackets" = some (some (.ref f27)))
    (l27 : K.lookup f27 = some ⟨oc27, od27, .func (PySem.W.fnOf "_read_brackets" "_read_brackets" (defArgs s_read_brackets) (defBody s_read_brackets) (defScope s_read_brackets) .none kV27 dc27 pm27 an27 cd27 ct27), sl27⟩)
    (c27 : PySem.W.codeIn K cd27 "_read_brackets" = true)
    (k27 : PySem.W.keepIn K (.ref f27) = true)
    (a28 : PySem.W.nsIn K mainGlobals "is_piece" = some (some (.ref f28)))
    (l28 : K.lookup f28 = some ⟨oc28, od28, .func (PySem.W.fnOf "is_piece" "is_piece" (defArgs s_is_piece) (defBody s_is_piece) (defScope s_is_piece) .none kV28 dc28 pm28 an28 cd28 ct28), sl28⟩)
    (c28 : PySem.W.codeIn K cd28 "is_piece" = true)
    (k28 : PySem.W.keepIn K (.ref f28) = true)
    (a29 : PySem.W.nsIn K mainGlobals "_read_piece" = some (some (.ref f29)))
    (l29 : K.lookup f29 = some ⟨oc29, od29, .func (PySem.W.fnOf "_read_piece" "_read_piece" (defArgs s_read_piece) (defBody s_read_piece) (defScope s_read_piece) .none kV29 dc29 pm29 an29 cd29 ct29), sl29⟩)
    (c29 : PySem.W.codeIn K cd29 "_read_piece" = true)
    (k29 : PySem.W.keepIn K (.ref f29) = true)
    (a30 : PySem.W.nsIn K mainGlobals "_read_compound" = some (some (.ref f30)))
    (l30 : K.lookup f30 = some ⟨oc30, od30, .func (PySem.W.fnOf "_read_compound" "_read_compound" (defArgs s_read_compound) (defBody s_read_compound) (defScope s_read_compound) .none kV30 dc30 pm30 an30 cd30 ct30), sl30⟩)
    (c30 : PySem.W.codeIn K cd30 "_read_compound" = true)
    (k30 : PySem.W.keepIn K (.ref f30) = true)
    (a31 : PySem.W.nsIn K mainGlobals "_read_step" = some (some (.ref f31)))
    (l31 : K.lookup f31 = some ⟨oc31, od31, .func (PySem.W.fnOf "_read_step" "_read_step" (defArgs s_read_step) (defBody s_read_step) (defScope s_read_step) .none kV31 dc31 pm31 an31 cd31 ct31), sl31⟩)
    (c31 : PySem.W.codeIn K cd31 "_read_step" = true)
    (k31 : PySem.W.keepIn K (.ref f31) = true)
    (a32 : PySem.W.nsIn K mainGlobals "_read_some" = some (some (.ref f32)))
    (l32 : K.lookup f32 = some ⟨oc32, od32, .func (PySem.W.fnOf "_read_some" "_read_some" (defArgs s_read_some) (defBody s_read_some) (defScope s_read_some) .none kV32 dc32 pm32 an32 cd32 ct32), sl32⟩)
    (c32 : PySem.W.codeIn K cd32 "_read_some" = true)
    (k32 : PySem.W.keepIn K (.ref f32) = true)
    (a33 : PySem.W.nsIn K mainGlobals "read_steps" = some (some (.ref f33)))
    (l33 : K.lookup f33 = some ⟨oc33, od33, .func (PySem.W.fnOf "read_steps" "read_steps" (defArgs s_read_steps) (defBody s_read_steps) (defScope s_read_steps) .none kV33 dc33 pm33 an33 cd33 ct33), sl33⟩)
    (c33 : PySem.W.codeIn K cd33 "read_steps" = true)
    (k33 : PySem.W.keepIn K (.ref f33) = true)
    (a34 : PySem.W.nsIn K mainGlobals "_words_of_bases" = some (some (.ref f34)))
    (l34 : K.lookup f34 = some ⟨oc34, od34, .func (PySem.W.fnOf "_words_of_bases" "_words_of_bases" (defArgs s_words_of_bases) (defBody s_words_of_bases) (defScope s_words_of_bases) .none kV34 dc34 pm34 an34 cd34 ct34), sl34⟩)
    (c34 : PySem.W.codeIn K cd34 "_words_of_bases" = true)
    (k34 : PySem.W.keepIn K (.ref f34) = true)
    (a35 : PySem.W.nsIn K mainGlobals "_in_brackets" = some (some (.ref f35)))
    (l35 : K.lookup f35 = some ⟨oc35, od35, .func (PySem.W.fnOf "_in_brackets" "_in_brackets" (defArgs s_in_brackets) (defBody s_in_brackets) (defScope s_in_brackets) .none kV35 dc35 pm35 an35 cd35 ct35), sl35⟩)
    (c35 : PySem.W.codeIn K cd35 "_in_brackets" = true)
    (k35 : PySem.W.keepIn K (.ref f35) = true)
    (a36 : PySem.W.nsIn K mainGlobals "_words_of_test" = some (some (.ref f36)))
    (l36 : K.lookup f36 = some ⟨oc36, od36, .func (PySem.W.fnOf "_words_of_test" "_words_of_test" (defArgs s_words_of_test) (defBody s_words_of_test) (defScope s_words_of_test) .none kV36 dc36 pm36 an36 cd36 ct36), sl36⟩)
    (c36 : PySem.W.codeIn K cd36 "_words_of_test" = true)
    (k36 : PySem.W.keepIn K (.ref f36) = true)
    (a37 : PySem.W.nsIn K mainGlobals "_words_of_step" = some (some (.ref f37)))
    (l37 : K.lookup f37 = some ⟨oc37, od37, .func (PySem.W.fnOf "_words_of_step" "_words_of_step" (defArgs s_words_of_step) (defBody s_words_of_step) (defScope s_words_of_step) .none kV37 dc37 pm37 an37 cd37 ct37), sl37⟩)
    (c37 : PySem.W.codeIn K cd37 "_words_of_step" = true)
    (k37 : PySem.W.keepIn K (.ref f37) = true)
    (a38 : PySem.W.nsIn K mainGlobals "_words_of_steps" = some (some (.ref f38)))
    (l38 : K.lookup f38 = some ⟨oc38, od38, .func (PySem.W.fnOf "_words_of_steps" "_words_of_steps" (defArgs s_words_of_steps) (defBody s_words_of_steps) (defScope s_words_of_steps) .none kV38 dc38 pm38 an38 cd38 ct38), sl38⟩)
    (c38 : PySem.W.codeIn K cd38 "_words_of_steps" = true)
    (k38 : PySem.W.keepIn K (.ref f38) = true)
    (a39 : PySem.W.nsIn K mainGlobals "text_of" = some (some (.ref f39)))
    (l39 : K.lookup f39 = some ⟨oc39, od39, .func (PySem.W.fnOf "text_of" "text_of" (defArgs s_text_of) (defBody s_text_of) (defScope s_text_of) .none kV39 dc39 pm39 an39 cd39 ct39), sl39⟩)
    (c39 : PySem.W.codeIn K cd39 "text_of" = true)
    (k39 : PySem.W.keepIn K (.ref f39) = true)
    (a40 : PySem.W.nsIn K mainGlobals "law" = some (some (.ref f40)))
    (l40 : K.lookup f40 = some ⟨oc40, od40, .func (PySem.W.fnOf "law" "law" (defArgs s_law) (defBody s_law) (defScope s_law) .none kV40 dc40 pm40 an40 cd40 ct40), sl40⟩)
    (c40 : PySem.W.codeIn K cd40 "law" = true)
    (k40 : PySem.W.keepIn K (.ref f40) = true)
    (kk_RANKS : PySem.W.nsIn K mainGlobals "RANKS" = some (some (.ref KT_RANKS)))
    (kl_RANKS : K.lookup KT_RANKS = some ⟨.type "tuple", td_RANKS, .seq #[.str "0" kt_RANKS_0, .str "1" kt_RANKS_1, .str "2" kt_RANKS_2, .str "3" kt_RANKS_3, .str "4" kt_RANKS_4, .str "5" kt_RANKS_5, .str "6" kt_RANKS_6] tn_RANKS, ts_RANKS⟩)
    (kk_MOST_OPEN : PySem.W.nsIn K mainGlobals "MOST_OPEN" = some (some (.int 20 kt_MOST_OPEN)))
    (kk_TIMES : PySem.W.nsIn K mainGlobals "TIMES" = some (some (.ref KT_TIMES)))
    (kl_TIMES : K.lookup KT_TIMES = some ⟨.type "tuple", td_TIMES, .seq #[.str "1" kt_TIMES_0, .str "2" kt_TIMES_1, .str "3" kt_TIMES_2, .str "4" kt_TIMES_3] tn_TIMES, ts_TIMES⟩)
    (z_all : PySem.W.nsIn K mainGlobals "all" = some none)
    (z_bool : PySem.W.nsIn K mainGlobals "bool" = some none)
    (z_enumerate : PySem.W.nsIn K mainGlobals "enumerate" = some none)
    (z_int : PySem.W.nsIn K mainGlobals "int" = some none)
    (z_isinstance : PySem.W.nsIn K mainGlobals "isinstance" = some none)
    (z_len : PySem.W.nsIn K mainGlobals "len" = some none)
    (z_list : PySem.W.nsIn K mainGlobals "list" = some none)
    (z_range : PySem.W.nsIn K mainGlobals "range" = some none)
    (z_sorted : PySem.W.nsIn K mainGlobals "sorted" = some none)
    (z_str : PySem.W.nsIn K mainGlobals "str" = some none)
    (z_tuple : PySem.W.nsIn K mainGlobals "tuple" = some none)
    (z_zip : PySem.W.nsIn K mainGlobals "zip" = some none)
    : ∃ (C : Nat → Addr) (fd : FuncData), (∀ (s : Shared) (v : Value), BindsTo s fd ⟨[v], []⟩ [("_law_script", v)]) ∧ ∀ base : Heap, K.In base → base.Ns mainGlobals mg → FnOk P w K mg base (L2.CX P w) 103 fa fd ["_law_script"] (spF K F_law) := by
  have e := hfa.symm.trans (PySem.W.mg_of X G a40)
  cases e
  let C : Nat → Addr := fun i => match i with
    | _ => 0
  let f : Nat → Addr := fun i => match i with
    | 0 => f0
    | 1 => f1
    | 2 => f2
    | 3 => f3
    | 4 => f4
    | 5 => f5
    | 6 => f6
    | 7 => f7
    | 8 => f8
    | 9 => f9
    | 10 => f10
    | 11 => f11
    | 12 => f12
    | 13 => f13
    | 14 => f14
    | 15 => f15
    | 16 => f16
    | 17 => f17
    | 18 => f18
    | 19 => f19
    | 20 => f20
    | 21 => f21
    | 22 => f22
    | 23 => f23
    | 24 => f24
    | 25 => f25
    | 26 => f26
    | 27 => f27
    | 28 => f28
    | 29 => f29
    | 30 => f30
    | 31 => f31
    | 32 => f32
    | 33 => f33
    | 34 => f34
    | 35 => f35
    | 36 => f36
    | 37 => f37
    | 38 => f38
    | 39 => f39
    | 40 => fa
    | _ => 0
  let fd : Nat → FuncData := fun i => match i with
    | 0 => (PySem.W.fnOf "_law_bag" "_law_bag" (defArgs s_l_bag) (defBody s_l_bag) (defScope s_l_bag) .none kV0 dc0 pm0 an0 cd0 ct0)
    | 1 => (PySem.W.fnOf "_law_pull" "_law_pull" (defArgs s_l_pull) (defBody s_l_pull) (defScope s_l_pull) .none kV1 dc1 pm1 an1 cd1 ct1)
    | 2 => (PySem.W.fnOf "_law_mixed" "_law_mixed" (defArgs s_l_mixed) (defBody s_l_mixed) (defScope s_l_mixed) .none kV2 dc2 pm2 an2 cd2 ct2)
    | 3 => (PySem.W.fnOf "_law_any" "_law_any" (defArgs s_l_any) (defBody s_l_any) (defScope s_l_any) .none kV3 dc3 pm3 an3 cd3 ct3)
    | 4 => (PySem.W.fnOf "_law_names" "_law_names" (defArgs s_l_names) (defBody s_l_names) (defScope s_l_names) .none kV4 dc4 pm4 an4 cd4 ct4)
    | 5 => (PySem.W.fnOf "_law_group" "_law_group" (defArgs s_l_group) (defBody s_l_group) (defScope s_l_group) .none kV5 dc5 pm5 an5 cd5 ct5)
    | 6 => (PySem.W.fnOf "_law_bases" "_law_bases" (defArgs s_l_bases) (defBody s_l_bases) (defScope s_l_bases) .none kV6 dc6 pm6 an6 cd6 ct6)
    | 7 => (PySem.W.fnOf "_law_step" "_law_step" (defArgs s_l_step) (defBody s_l_step) (defScope s_l_step) .none kV7 dc7 pm7 an7 cd7 ct7)
    | 8 => (PySem.W.fnOf "_law_ends" "_law_ends" (defArgs s_l_ends) (defBody s_l_ends) (defScope s_l_ends) .none kV8 dc8 pm8 an8 cd8 ct8)
    | 9 => (PySem.W.fnOf "_law_plain" "_law_plain" (defArgs s_l_plain) (defBody s_l_plain) (defScope s_l_plain) .none kV9 dc9 pm9 an9 cd9 ct9)
    | 10 => (PySem.W.fnOf "_law_test" "_law_test" (defArgs s_l_test) (defBody s_l_test) (defScope s_l_test) .none kV10 dc10 pm10 an10 cd10 ct10)
    | 11 => (PySem.W.fnOf "_law_still" "_law_still" (defArgs s_l_still) (defBody s_l_still) (defScope s_l_still) .none kV11 dc11 pm11 an11 cd11 ct11)
    | 12 => (PySem.W.fnOf "_law_body" "_law_body" (defArgs s_l_body) (defBody s_l_body) (defScope s_l_body) .none kV12 dc12 pm12 an12 cd12 ct12)
    | 13 => (PySem.W.fnOf "_law_all_steps" "_law_all_steps" (defArgs s_l_all_steps) (defBody s_l_all_steps) (defScope s_l_all_steps) .none kV13 dc13 pm13 an13 cd13 ct13)
    | 14 => (PySem.W.fnOf "_law_test_words" "_law_test_words" (defArgs s_l_test_words) (defBody s_l_test_words) (defScope s_l_test_words) .none kV14 dc14 pm14 an14 cd14 ct14)
    | 15 => (PySem.W.fnOf "_law_step_words" "_law_step_words" (defArgs s_l_step_words) (defBody s_l_step_words) (defScope s_l_step_words) .none kV15 dc15 pm15 an15 cd15 ct15)
    | 16 => (PySem.W.fnOf "_law_words" "_law_words" (defArgs s_l_words) (defBody s_l_words) (defScope s_l_words) .none kV16 dc16 pm16 an16 cd16 ct16)
    | 17 => (PySem.W.fnOf "_law_text" "_law_text" (defArgs s_l_text) (defBody s_l_text) (defScope s_l_text) .none kV17 dc17 pm17 an17 cd17 ct17)
    | 18 => (PySem.W.fnOf "_law_same" "_law_same" (defArgs s_l_same) (defBody s_l_same) (defScope s_l_same) .none kV18 dc18 pm18 an18 cd18 ct18)
    | 19 => (PySem.W.fnOf "_word" "_word" (defArgs s_word) (defBody s_word) (defScope s_word) .none kV19 dc19 pm19 an19 cd19 ct19)
    | 20 => (PySem.W.fnOf "_is_word" "_is_word" (defArgs s_is_word) (defBody s_is_word) (defScope s_is_word) .none kV20 dc20 pm20 an20 cd20 ct20)
    | 21 => (PySem.W.fnOf "is_name" "is_name" (defArgs s_is_name) (defBody s_is_name) (defScope s_is_name) .none kV21 dc21 pm21 an21 cd21 ct21)
    | 22 => (PySem.W.fnOf "_read_name" "_read_name" (defArgs s_read_name) (defBody s_read_name) (defScope s_read_name) .none kV22 dc22 pm22 an22 cd22 ct22)
    | 23 => (PySem.W.fnOf "_read_group" "_read_group" (defArgs s_read_group) (defBody s_read_group) (defScope s_read_group) .none kV23 dc23 pm23 an23 cd23 ct23)
    | 24 => (PySem.W.fnOf "_read_bases" "_read_bases" (defArgs s_read_bases) (defBody s_read_bases) (defScope s_read_bases) .none kV24 dc24 pm24 an24 cd24 ct24)
    | 25 => (PySem.W.fnOf "_read_digit" "_read_digit" (defArgs s_read_digit) (defBody s_read_digit) (defScope s_read_digit) .none kV25 dc25 pm25 an25 cd25 ct25)
    | 26 => (PySem.W.fnOf "_read_test" "_read_test" (defArgs s_read_test) (defBody s_read_test) (defScope s_read_test) .none kV26 dc26 pm26 an26 cd26 ct26)
    | 27 => (PySem.W.fnOf "_read_brackets" "_read_brackets" (defArgs s_read_brackets) (defBody s_read_brackets) (defScope s_read_brackets) .none kV27 dc27 pm27 an27 cd27 ct27)
    | 28 => (PySem.W.fnOf "is_piece" "is_piece" (defArgs s_is_piece) (defBody s_is_piece) (defScope s_is_piece) .none kV28 dc28 pm28 an28 cd28 ct28)
    | 29 => (PySem.W.fnOf "_read_piece" "_read_piece" (defArgs s_read_piece) (defBody s_read_piece) (defScope s_read_piece) .none kV29 dc29 pm29 an29 cd29 ct29)
    | 30 => (PySem.W.fnOf "_read_compound" "_read_compound" (defArgs s_read_compound) (defBody s_read_compound) (defScope s_read_compound) .none kV30 dc30 pm30 an30 cd30 ct30)
    | 31 => (PySem.W.fnOf "_read_step" "_read_step" (defArgs s_read_step) (defBody s_read_step) (defScope s_read_step) .none kV31 dc31 pm31 an31 cd31 ct31)
    | 32 => (PySem.W.fnOf "_read_some" "_read_some" (defArgs s_read_some) (defBody s_read_some) (defScope s_read_some) .none kV32 dc32 pm32 an32 cd32 ct32)
    | 33 => (PySem.W.fnOf "read_steps" "read_steps" (defArgs s_read_steps) (defBody s_read_steps) (defScope s_read_steps) .none kV33 dc33 pm33 an33 cd33 ct33)
    | 34 => (PySem.W.fnOf "_words_of_bases" "_words_of_bases" (defArgs s_words_of_bases) (defBody s_words_of_bases) (defScope s_words_of_bases) .none kV34 dc34 pm34 an34 cd34 ct34)
    | 35 => (PySem.W.fnOf "_in_brackets" "_in_brackets" (defArgs s_in_brackets) (defBody s_in_brackets) (defScope s_in_brackets) .none kV35 dc35 pm35 an35 cd35 ct35)
    | 36 => (PySem.W.fnOf "_words_of_test" "_words_of_test" (defArgs s_words_of_test) (defBody s_words_of_test) (defScope s_words_of_test) .none kV36 dc36 pm36 an36 cd36 ct36)
    | 37 => (PySem.W.fnOf "_words_of_step" "_words_of_step" (defArgs s_words_of_step) (defBody s_words_of_step) (defScope s_words_of_step) .none kV37 dc37 pm37 an37 cd37 ct37)
    | 38 => (PySem.W.fnOf "_words_of_steps" "_words_of_steps" (defArgs s_words_of_steps) (defBody s_words_of_steps) (defScope s_words_of_steps) .none kV38 dc38 pm38 an38 cd38 ct38)
    | 39 => (PySem.W.fnOf "text_of" "text_of" (defArgs s_text_of) (defBody s_text_of) (defScope s_text_of) .none kV39 dc39 pm39 an39 cd39 ct39)
    | 40 => (PySem.W.fnOf "law" "law" (defArgs s_law) (defBody s_law) (defScope s_law) .none kV40 dc40 pm40 an40 cd40 ct40)
    | _ => (PySem.W.fnOf "_law_bag" "_law_bag" (defArgs s_l_bag) (defBody s_l_bag) (defScope s_l_bag) .none kV0 dc0 pm0 an0 cd0 ct0)
  have F0 : Fun K "_law_bag" "_law_bag" s_l_bag f0 (PySem.W.fnOf "_law_bag" "_law_bag" (defArgs s_l_bag) (defBody s_l_bag) (defScope s_l_bag) .none kV0 dc0 pm0 an0 cd0 ct0) := fun_mk (st := s_l_bag) l0 c0 k0
  have F1 : Fun K "_law_pull" "_law_pull" s_l_pull f1 (PySem.W.fnOf "_law_pull" "_law_pull" (defArgs s_l_pull) (defBody s_l_pull) (defScope s_l_pull) .none kV1 dc1 pm1 an1 cd1 ct1) := fun_mk (st := s_l_pull) l1 c1 k1
  have F2 : Fun K "_law_mixed" "_law_mixed" s_l_mixed f2 (PySem.W.fnOf "_law_mixed" "_law_mixed" (defArgs s_l_mixed) (defBody s_l_mixed) (defScope s_l_mixed) .none kV2 dc2 pm2 an2 cd2 ct2) := fun_mk (st := s_l_mixed) l2 c2 k2
  have F3 : Fun K "_law_any" "_law_any" s_l_any f3 (PySem.W.fnOf "_law_any" "_law_any" (defArgs s_l_any) (defBody s_l_any) (defScope s_l_any) .none kV3 dc3 pm3 an3 cd3 ct3) := fun_mk (st := s_l_any) l3 c3 k3
  have F4 : Fun K "_law_names" "_law_names" s_l_names f4 (PySem.W.fnOf "_law_names" "_law_names" (defArgs s_l_names) (defBody s_l_names) (defScope s_l_names) .none kV4 dc4 pm4 an4 cd4 ct4) := fun_mk (st := s_l_names) l4 c4 k4
  have F5 : Fun K "_law_group" "_law_group" s_l_group f5 (PySem.W.fnOf "_law_group" "_law_group" (defArgs s_l_group) (defBody s_l_group) (defScope s_l_group) .none kV5 dc5 pm5 an5 cd5 ct5) := fun_mk (st := s_l_group) l5 c5 k5
  have F6 : Fun K "_law_bases" "_law_bases" s_l_bases f6 (PySem.W.fnOf "_law_bases" "_law_bases" (defArgs s_l_bases) (defBody s_l_bases) (defScope s_l_bases) .none kV6 dc6 pm6 an6 cd6 ct6) := fun_mk (st := s_l_bases) l6 c6 k6
  have F7 : Fun K "_law_step" "_law_step" s_l_step f7 (PySem.W.fnOf "_law_step" "_law_step" (defArgs s_l_step) (defBody s_l_step) (defScope s_l_step) .none kV7 dc7 pm7 an7 cd7 ct7) := fun_mk (st := s_l_step) l7 c7 k7
  have F8 : Fun K "_law_ends" "_law_ends" s_l_ends f8 (PySem.W.fnOf "_law_ends" "_law_ends" (defArgs s_l_ends) (defBody s_l_ends) (defScope s_l_ends) .none kV8 dc8 pm8 an8 cd8 ct8) := fun_mk (st := s_l_ends) l8 c8 k8
  have F9 : Fun K "_law_plain" "_law_plain" s_l_plain f9 (PySem.W.fnOf "_law_plain" "_law_plain" (defArgs s_l_plain) (defBody s_l_plain) (defScope s_l_plain) .none kV9 dc9 pm9 an9 cd9 ct9) := fun_mk (st := s_l_plain) l9 c9 k9
  have F10 : Fun K "_law_test" "_law_test" s_l_test f10 (PySem.W.fnOf "_law_test" "_law_test" (defArgs s_l_test) (defBody s_l_test) (defScope s_l_test) .none kV10 dc10 pm10 an10 cd10 ct10) := fun_mk (st := s_l_test) l10 c10 k10
  have F11 : Fun K "_law_still" "_law_still" s_l_still f11 (PySem.W.fnOf "_law_still" "_law_still" (defArgs s_l_still) (defBody s_l_still) (defScope s_l_still) .none kV11 dc11 pm11 an11 cd11 ct11) := fun_mk (st := s_l_still) l11 c11 k11
  have F12 : Fun K "_law_body" "_law_body" s_l_body f12 (PySem.W.fnOf "_law_body" "_law_body" (defArgs s_l_body) (defBody s_l_body) (defScope s_l_body) .none kV12 dc12 pm12 an12 cd12 ct12) := fun_mk (st := s_l_body) l12 c12 k12
  have F13 : Fun K "_law_all_steps" "_law_all_steps" s_l_all_steps f13 (PySem.W.fnOf "_law_all_steps" "_law_all_steps" (defArgs s_l_all_steps) (defBody s_l_all_steps) (defScope s_l_all_steps) .none kV13 dc13 pm13 an13 cd13 ct13) := fun_mk (st := s_l_all_steps) l13 c13 k13
  have F14 : Fun K "_law_test_words" "_law_test_words" s_l_test_words f14 (PySem.W.fnOf "_law_test_words" "_law_test_words" (defArgs s_l_test_words) (defBody s_l_test_words) (defScope s_l_test_words) .none kV14 dc14 pm14 an14 cd14 ct14) := fun_mk (st := s_l_test_words) l14 c14 k14
  have F15 : Fun K "_law_step_words" "_law_step_words" s_l_step_words f15 (PySem.W.fnOf "_law_step_words" "_law_step_words" (defArgs s_l_step_words) (defBody s_l_step_words) (defScope s_l_step_words) .none kV15 dc15 pm15 an15 cd15 ct15) := fun_mk (st := s_l_step_words) l15 c15 k15
  have F16 : Fun K "_law_words" "_law_words" s_l_words f16 (PySem.W.fnOf "_law_words" "_law_words" (defArgs s_l_words) (defBody s_l_words) (defScope s_l_words) .none kV16 dc16 pm16 an16 cd16 ct16) := fun_mk (st := s_l_words) l16 c16 k16
  have F17 : Fun K "_law_text" "_law_text" s_l_text f17 (PySem.W.fnOf "_law_text" "_law_text" (defArgs s_l_text) (defBody s_l_text) (defScope s_l_text) .none kV17 dc17 pm17 an17 cd17 ct17) := fun_mk (st := s_l_text) l17 c17 k17
  have F18 : Fun K "_law_same" "_law_same" s_l_same f18 (PySem.W.fnOf "_law_same" "_law_same" (defArgs s_l_same) (defBody s_l_same) (defScope s_l_same) .none kV18 dc18 pm18 an18 cd18 ct18) := fun_mk (st := s_l_same) l18 c18 k18
  have F19 : Fun K "_word" "_word" s_word f19 (PySem.W.fnOf "_word" "_word" (defArgs s_word) (defBody s_word) (defScope s_word) .none kV19 dc19 pm19 an19 cd19 ct19) := fun_mk (st := s_word) l19 c19 k19
  have F20 : Fun K "_is_word" "_is_word" s_is_word f20 (PySem.W.fnOf "_is_word" "_is_word" (defArgs s_is_word) (defBody s_is_word) (defScope s_is_word) .none kV20 dc20 pm20 an20 cd20 ct20) := fun_mk (st := s_is_word) l20 c20 k20
  have F21 : Fun K "is_name" "is_name" s_is_name f21 (PySem.W.fnOf "is_name" "is_name" (defArgs s_is_name) (defBody s_is_name) (defScope s_is_name) .none kV21 dc21 pm21 an21 cd21 ct21) := fun_mk (st := s_is_name) l21 c21 k21
  have F22 : Fun K "_read_name" "_read_name" s_read_name f22 (PySem.W.fnOf "_read_name" "_read_name" (defArgs s_read_name) (defBody s_read_name) (defScope s_read_name) .none kV22 dc22 pm22 an22 cd22 ct22) := fun_mk (st := s_read_name) l22 c22 k22
  have F23 : Fun K "_read_group" "_read_group" s_read_group f23 (PySem.W.fnOf "_read_group" "_read_group" (defArgs s_read_group) (defBody s_read_group) (defScope s_read_group) .none kV23 dc23 pm23 an23 cd23 ct23) := fun_mk (st := s_read_group) l23 c23 k23
  have F24 : Fun K "_read_bases" "_read_bases" s_read_bases f24 (PySem.W.fnOf "_read_bases" "_read_bases" (defArgs s_read_bases) (defBody s_read_bases) (defScope s_read_bases) .none kV24 dc24 pm24 an24 cd24 ct24) := fun_mk (st := s_read_bases) l24 c24 k24
  have F25 : Fun K "_read_digit" "_read_digit" s_read_digit f25 (PySem.W.fnOf "_read_digit" "_read_digit" (defArgs s_read_digit) (defBody s_read_digit) (defScope s_read_digit) .none kV25 dc25 pm25 an25 cd25 ct25) := fun_mk (st := s_read_digit) l25 c25 k25
  have F26 : Fun K "_read_test" "_read_test" s_read_test f26 (PySem.W.fnOf "_read_test" "_read_test" (defArgs s_read_test) (defBody s_read_test) (defScope s_read_test) .none kV26 dc26 pm26 an26 cd26 ct26) := fun_mk (st := s_read_test) l26 c26 k26
  have F27 : Fun K "_read_brackets" "_read_brackets" s_read_brackets f27 (PySem.W.fnOf "_read_brackets" "_read_brackets" (defArgs s_read_brackets) (defBody s_read_brackets) (defScope s_read_brackets) .none kV27 dc27 pm27 an27 cd27 ct27) := fun_mk (st := s_read_brackets) l27 c27 k27
  have F28 : Fun K "is_piece" "is_piece" s_is_piece f28 (PySem.W.fnOf "is_piece" "is_piece" (defArgs s_is_piece) (defBody s_is_piece) (defScope s_is_piece) .none kV28 dc28 pm28 an28 cd28 ct28) := fun_mk (st := s_is_piece) l28 c28 k28
  have F29 : Fun K "_read_piece" "_read_piece" s_read_piece f29 (PySem.W.fnOf "_read_piece" "_read_piece" (defArgs s_read_piece) (defBody s_read_piece) (defScope s_read_piece) .none kV29 dc29 pm29 an29 cd29 ct29) := fun_mk (st := s_read_piece) l29 c29 k29
  have F30 : Fun K "_read_compound" "_read_compound" s_read_compound f30 (PySem.W.fnOf "_read_compound" "_read_compound" (defArgs s_read_compound) (defBody s_read_compound) (defScope s_read_compound) .none kV30 dc30 pm30 an30 cd30 ct30) := fun_mk (st := s_read_compound) l30 c30 k30
  have F31 : Fun K "_read_step" "_read_step" s_read_step f31 (PySem.W.fnOf "_read_step" "_read_step" (defArgs s_read_step) (defBody s_read_step) (defScope s_read_step) .none kV31 dc31 pm31 an31 cd31 ct31) := fun_mk (st := s_read_step) l31 c31 k31
  have F32 : Fun K "_read_some" "_read_some" s_read_some f32 (PySem.W.fnOf "_read_some" "_read_some" (defArgs s_read_some) (defBody s_read_some) (defScope s_read_some) .none kV32 dc32 pm32 an32 cd32 ct32) := fun_mk (st := s_read_some) l32 c32 k32
  have F33 : Fun K "read_steps" "read_steps" s_read_steps f33 (PySem.W.fnOf "read_steps" "read_steps" (defArgs s_read_steps) (defBody s_read_steps) (defScope s_read_steps) .none kV33 dc33 pm33 an33 cd33 ct33) := fun_mk (st := s_read_steps) l33 c33 k33
  have F34 : Fun K "_words_of_bases" "_words_of_bases" s_words_of_bases f34 (PySem.W.fnOf "_words_of_bases" "_words_of_bases" (defArgs s_words_of_bases) (defBody s_words_of_bases) (defScope s_words_of_bases) .none kV34 dc34 pm34 an34 cd34 ct34) := fun_mk (st := s_words_of_bases) l34 c34 k34
  have F35 : Fun K "_in_brackets" "_in_brackets" s_in_brackets f35 (PySem.W.fnOf "_in_brackets" "_in_brackets" (defArgs s_in_brackets) (defBody s_in_brackets) (defScope s_in_brackets) .none kV35 dc35 pm35 an35 cd35 ct35) := fun_mk (st := s_in_brackets) l35 c35 k35
  have F36 : Fun K "_words_of_test" "_words_of_test" s_words_of_test f36 (PySem.W.fnOf "_words_of_test" "_words_of_test" (defArgs s_words_of_test) (defBody s_words_of_test) (defScope s_words_of_test) .none kV36 dc36 pm36 an36 cd36 ct36) := fun_mk (st := s_words_of_test) l36 c36 k36
  have F37 : Fun K "_words_of_step" "_words_of_step" s_words_of_step f37 (PySem.W.fnOf "_words_of_step" "_words_of_step" (defArgs s_words_of_step) (defBody s_words_of_step) (defScope s_words_of_step) .none kV37 dc37 pm37 an37 cd37 ct37) := fun_mk (st := s_words_of_step) l37 c37 k37
  have F38 : Fun K "_words_of_steps" "_words_of_steps" s_words_of_steps f38 (PySem.W.fnOf "_words_of_steps" "_words_of_steps" (defArgs s_words_of_steps) (defBody s_words_of_steps) (defScope s_words_of_steps) .none kV38 dc38 pm38 an38 cd38 ct38) := fun_mk (st := s_words_of_steps) l38 c38 k38
  have F39 : Fun K "text_of" "text_of" s_text_of f39 (PySem.W.fnOf "text_of" "text_of" (defArgs s_text_of) (defBody s_text_of) (defScope s_text_of) .none kV39 dc39 pm39 an39 cd39 ct39) := fun_mk (st := s_text_of) l39 c39 k39
  have F40 : Fun K "law" "law" s_law fa (PySem.W.fnOf "law" "law" (defArgs s_law) (defBody s_law) (defScope s_law) .none kV40 dc40 pm40 an40 cd40 ct40) := fun_mk (st := s_law) l40 c40 k40
  have T : Txt K mg C f fd := {
    F_l_bag := F0
    b_l_bag := F0.binds fun _ _ _ _ _ _ us hl => match us, hl with | [_], _ => rfl
    g_l_bag := PySem.W.mg_of X G a0
    F_l_pull := F1
    b_l_pull := F1.binds fun _ _ _ _ _ _ us hl => match us, hl with | [_, _], _ => rfl
    g_l_pull := PySem.W.mg_of X G a1
    F_l_mixed := F2
    b_l_mixed := F2.binds fun _ _ _ _ _ _ us hl => match us, hl with | [_, _], _ => rfl
    g_l_mixed := PySem.W.mg_of X G a2
    F_l_any := F3
    b_l_any := F3.binds fun _ _ _ _ _ _ us hl => match us, hl with | [_, _], _ => rfl
    g_l_any := PySem.W.mg_of X G a3
    F_l_names := F4
    b_l_names := F4.binds fun _ _ _ _ _ _ us hl => match us, hl with | [_, _], _ => rfl
    g_l_names := PySem.W.mg_of X G a4
    F_l_group := F5
    b_l_group := F5.binds fun _ _ _ _ _ _ us hl => match us, hl with | [_, _], _ => rfl
    g_l_group := PySem.W.mg_of X G a5
    F_l_bases := F6
    b_l_bases := F6.binds fun _ _ _ _ _ _ us hl => match us, hl with | [_, _], _ => rfl
    g_l_bases := PySem.W.mg_of X G a6
    F_l_step := F7
    b_l_step := F7.binds fun _ _ _ _ _ _ us hl => match us, hl with | [_, _, _, _], _ => rfl
    g_l_step := PySem.W.mg_of X G a7
    F_l_ends := F8
    b_l_ends := F8.binds fun _ _ _ _ _ _ us hl => match us, hl with | [_, _], _ => rfl
    g_l_ends := PySem.W.mg_of X G a8
    F_l_plain := F9
    b_l_plain := F9.binds fun _ _ _ _ _ _ us hl => match us, hl with | [_, _, _, _], _ => rfl
    g_l_plain := PySem.W.mg_of X G a9
    F_l_test := F10
    b_l_test := F10.binds fun _ _ _ _ _ _ us hl => match us, hl with | [_, _, _], _ => rfl
    g_l_test := PySem.W.mg_of X G a10
    F_l_still := F11
    b_l_still := F11.binds fun _ _ _ _ _ _ us hl => match us, hl with | [_, _, _], _ => rfl
    g_l_still := PySem.W.mg_of X G a11
    F_l_body := F12
    b_l_body := F12.binds fun _ _ _ _ _ _ us hl => match us, hl with | [_, _, _, _], _ => rfl
    g_l_body := PySem.W.mg_of X G a12
    F_l_all_steps := F13
    b_l_all_steps := F13.binds fun _ _ _ _ _ _ us hl => match us, hl with | [_, _, _], _ => rfl
    g_l_all_steps := PySem.W.mg_of X G a13
    F_l_test_words := F14
    b_l_test_words := F14.binds fun _ _ _ _ _ _ us hl => match us, hl with | [_], _ => rfl
    g_l_test_words := PySem.W.mg_of X G a14
    F_l_step_words := F15
    b_l_step_words := F15.binds fun _ _ _ _ _ _ us hl => match us, hl with | [_], _ => rfl
    g_l_step_words := PySem.W.mg_of X G a15
    F_l_words := F16
    b_l_words := F16.binds fun _ _ _ _ _ _ us hl => match us, hl with | [_], _ => rfl
    g_l_words := PySem.W.mg_of X G a16
    F_l_text := F17
    b_l_text := F17.binds fun _ _ _ _ _ _ us hl => match us, hl with | [_], _ => rfl
    g_l_text := PySem.W.mg_of X G a17
    F_l_same := F18
    b_l_same := F18.binds fun _ _ _ _ _ _ us hl => match us, hl with | [_, _], _ => rfl
    g_l_same := PySem.W.mg_of X G a18
    F_word := F19
    b_word := F19.binds fun _ _ _ _ _ _ us hl => match us, hl with | [_, _], _ => rfl
    g_word := PySem.W.mg_of X G a19
    F_is_word := F20
    b_is_word := F20.binds fun _ _ _ _ _ _ us hl => match us, hl with | [_, _], _ => rfl
    g_is_word := PySem.W.mg_of X G a20
    F_is_name := F21
    b_is_name := F21.binds fun _ _ _ _ _ _ us hl => match us, hl with | [_], _ => rfl
    g_is_name := PySem.W.mg_of X G a21
    F_read_name := F22
    b_read_name := F22.binds fun _ _ _ _ _ _ us hl => match us, hl with | [_, _], _ => rfl
    g_read_name := PySem.W.mg_of X G a22
    F_read_group := F23
    b_read_group := F23.binds fun _ _ _ _ _ _ us hl => match us, hl with | [_, _], _ => rfl
    g_read_group := PySem.W.mg_of X G a23
    F_read_bases := F24
    b_read_bases := F24.binds fun _ _ _ _ _ _ us hl => match us, hl with | [_, _], _ => rfl
    g_read_bases := PySem.W.mg_of X G a24
    F_read_digit := F25
    b_read_digit := F25.binds fun _ _ _ _ _ _ us hl => match us, hl with | [_, _, _], _ => rfl
    g_read_digit := PySem.W.mg_of X G a25
    F_read_test := F26
    b_read_test := F26.binds fun _ _ _ _ _ _ us hl => match us, hl with | [_, _], _ => rfl
    g_read_test := PySem.W.mg_of X G a26
    F_read_brackets := F27
    b_read_brackets := F27.binds fun _ _ _ _ _ _ us hl => match us, hl with | [_, _, _], _ => rfl
    g_read_brackets := PySem.W.mg_of X G a27
    F_is_piece := F28
    b_is_piece := F28.binds fun _ _ _ _ _ _ us hl => match us, hl with | [_], _ => rfl
    g_is_piece := PySem.W.mg_of X G a28
    F_read_piece := F29
    b_read_piece := F29.binds fun _ _ _ _ _ _ us hl => match us, hl with | [_, _], _ => rfl
    g_read_piece := PySem.W.mg_of X G a29
    F_read_compound := F30
    b_read_compound := F30.binds fun _ _ _ _ _ _ us hl => match us, hl with | [_, _, _], _ => rfl
    g_read_compound := PySem.W.mg_of X G a30
    F_read_step := F31
    b_read_step := F31.binds fun _ _ _ _ _ _ us hl => match us, hl with | [_, _, _], _ => rfl
    g_read_step := PySem.W.mg_of X G a31
    F_read_some := F32
    b_read_some := F32.binds fun _ _ _ _ _ _ us hl => match us, hl with | [_, _, _], _ => rfl
    g_read_some := PySem.W.mg_of X G a32
    F_read_steps := F33
    b_read_steps := F33.binds fun _ _ _ _ _ _ us hl => match us, hl with | [_], _ => rfl
    g_read_steps := PySem.W.mg_of X G a33
    F_words_of_bases := F34
    b_words_of_bases := F34.binds fun _ _ _ _ _ _ us hl => match us, hl with | [_], _ => rfl
    g_words_of_bases := PySem.W.mg_of X G a34
    F_in_brackets := F35
    b_in_brackets := F35.binds fun _ _ _ _ _ _ us hl => match us, hl with | [_], _ => rfl
    g_in_brackets := PySem.W.mg_of X G a35
    F_words_of_test := F36
    b_words_of_test := F36.binds fun _ _ _ _ _ _ us hl => match us, hl with | [_], _ => rfl
    g_words_of_test := PySem.W.mg_of X G a36
    F_words_of_step := F37
    b_words_of_step := F37.binds fun _ _ _ _ _ _ us hl => match us, hl with | [_], _ => rfl
    g_words_of_step := PySem.W.mg_of X G a37
    F_words_of_steps := F38
    b_words_of_steps := F38.binds fun _ _ _ _ _ _ us hl => match us, hl with | [_], _ => rfl
    g_words_of_steps := PySem.W.mg_of X G a38
    F_text_of := F39
    b_text_of := F39.binds fun _ _ _ _ _ _ us hl => match us, hl with | [_], _ => rfl
    g_text_of := PySem.W.mg_of X G a39
    F_law := F40
    b_law := F40.binds fun _ _ _ _ _ _ us hl => match us, hl with | [_], _ => rfl
    g_law := PySem.W.mg_of X G a40
    kb_read_steps_0 := kbn_mk F33 ["text"] [0] fun _ _ _ _ _ _ ws hl => match ws, hl with | [_], _ => rfl
    k_RANKS := ⟨_, PySem.W.mg_of X G kk_RANKS, _, _, _, kl_RANKS, rfl, rfl, (show (7 : Nat) ≤ sizeLine by decide), (.cons ⟨_, rfl⟩ (.cons ⟨_, rfl⟩ (.cons ⟨_, rfl⟩ (.cons ⟨_, rfl⟩ (.cons ⟨_, rfl⟩ (.cons ⟨_, rfl⟩ (.cons ⟨_, rfl⟩ .nil)))))))⟩
    k_MOST_OPEN := ⟨_, PySem.W.mg_of X G kk_MOST_OPEN, ⟨_, rfl⟩⟩
    k_TIMES := ⟨_, PySem.W.mg_of X G kk_TIMES, _, _, _, kl_TIMES, rfl, rfl, (show (4 : Nat) ≤ sizeLine by decide), (.cons ⟨_, rfl⟩ (.cons ⟨_, rfl⟩ (.cons ⟨_, rfl⟩ (.cons ⟨_, rfl⟩ .nil))))⟩
    z_all := PySem.W.mg_none_of X G z_all
    z_bool := PySem.W.mg_none_of X G z_bool
    z_enumerate := PySem.W.mg_none_of X G z_enumerate
    z_int := PySem.W.mg_none_of X G z_int
    z_isinstance := PySem.W.mg_none_of X G z_isinstance
    z_len := PySem.W.mg_none_of X G z_len
    z_list := PySem.W.mg_none_of X G z_list
    z_range := PySem.W.mg_none_of X G z_range
    z_sorted := PySem.W.mg_none_of X G z_sorted
    z_str := PySem.W.mg_none_of X G z_str
    z_tuple := PySem.W.mg_none_of X G z_tuple
    z_zip := PySem.W.mg_none_of X G z_zip
  }
  exact ⟨C, _, fun s v => .of_eq rfl, fun base _ _ => ok_law T⟩
/-- the state at the law's call: the script, nothing else -/
theorem start_sp {C : Nat → Addr} {K : PySem.W.Frag} {H : Hp} {a : Addr} {ns : List Int} (hl : ns.length ≤ 63) (hS : SqL K H a (ns.map V.int)) : spF K (F_law) [.ref a] H (fun v _ => v = .bl true) fun _ _ _ => False := by
  obtain ⟨b, own, nx, e⟩ := law_true C a ns hl
  refine ⟨⟨fun _ => False, fun _ => False, fun _ => none, fun _ h => h⟩, [.opq (.ref a)], ⟨none, some (a, ns), [], 0⟩, _, _, .cons (.opq _) .nil, ⟨fun _ h => h.elim, (fun _ _ _ h => nomatch h), (fun _ _ h => nomatch h), fun _ => rfl, (fun _ h => nomatch h), fun x zs h => ?_, (fun _ _ h => nomatch h), (fun _ _ h => nomatch h)⟩, e, fun W' H' _ _ v r => ?_⟩
  · cases h
    rcases hS with h | h
    · exact .inl ⟨fun z => z, h⟩
    · exact .inr h
  · cases r
    rfl
theorem no_exc {P : Program} {w : World} {H : Hp} {s : Shared} {e : Value} {s' : Shared} (h : L2.CX P w [] H s (fun _ _ _ => False) e s') : False := by
  obtain ⟨_, _, _, _, _, _, _, _, _, _, _, _, z⟩ := h
  exact z
/-- what the law's def promises -/
def LawSp (K : PySem.W.Frag) : Sp := fun vs H Q E => ∃ C : Nat → Addr, spF K (F_law) vs H Q E
end Dn
open PySem PySem.W PyProof.Rows
set_option maxHeartbeats 0 in
theorem PySem.Challenge.cw_unseenrest_k24_whole_texts_read_back_holds : PySem.Challenge.rw_unseenrest_k24_whole_texts_read_back.Holds := by
  w_on; o_law; k_head; (case hw => w_witness2)
  k_fill
  refine L2.walk_of (l := PySem.Challenge.rw_unseenrest_k24_whole_texts_read_back) (n := 63) (k := 103) (x := "_law_script") (CX := fun w => L2.CX PySem.Challenge.rw_unseenrest_k24_whole_texts_read_back.prog w) (sp := fun w vs H Q E => ∀ C : Nat → Addr, Dn.spF _ (Dn.F_law) vs H Q E) rfl (by decide) rfl ⟨rfl, by decide, by decide⟩ (fun w h Y => PySem.W.kIn_of Y) ?F (fun _ _ a ns hl _ hS C => Dn.start_sp (C := C) hl hS) (fun _ _ _ _ _ h => Dn.no_exc h)
  case F =>
    intro w mg fa h KX G hmg
    have q := by
      refine' Dn.all_mk (P := PySem.Challenge.rw_unseenrest_k24_whole_texts_read_back.prog) (w := w) KX G hmg ?a0 ?l0 ?c0 ?k0 ?a1 ?l1 ?c1 ?k1 ?a2 ?l2 ?c2 ?k2 ?a3 ?l3 ?c3 ?k3 ?a4 ?l4 ?c4 ?k4 ?a5 ?l5 ?c5 ?k5 ?a6 ?l6 ?c6 ?k6 ?a7 ?l7 ?c7 ?k7 ?a8 ?l8 ?c8 ?k8 ?a9 ?l9 ?c9 ?k9 ?a10 ?l10 ?c10 ?k10 ?a11 ?l11 ?c11 ?k11 ?a12 ?l12 ?c12 ?k12 ?a13 ?l13 ?c13 ?k13 ?a14 ?l14 ?c14 ?k14 ?a15 ?l15 ?c15 ?k15 ?a16 ?l16 ?c16 ?k16 ?a17 ?l17 ?c17 ?k17 ?a18 ?l18 ?c18 ?k18 ?a19 ?l19 ?c19 ?k19 ?a20 ?l20 ?c20 ?k20 ?a21 ?l21 ?c21 ?k21 ?a22 ?l22 ?c22 ?k22 ?a23 ?l23 ?c23 ?k23 ?a24 ?l24 ?c24 ?k24 ?a25 ?l25 ?c25 ?k25 ?a26 ?l26 ?c26 ?k26 ?a27 ?l27 ?c27 ?k27 ?a28 ?l28 ?c28 ?k28 ?a29 ?l29 ?c29 ?k29 ?a30 ?l30 ?c30 ?k30 ?a31 ?l31 ?c31 ?k31 ?a32 ?l32 ?c32 ?k32 ?a33 ?l33 ?c33 ?k33 ?a34 ?l34 ?c34 ?k34 ?a35 ?l35 ?c35 ?k35 ?a36 ?l36 ?c36 ?k36 ?a37 ?l37 ?c37 ?k37 ?a38 ?l38 ?c38 ?k38 ?a39 ?l39 ?c39 ?k39 ?a40 ?l40 ?c40 ?k40 ?kk_RANKS ?kl_RANKS ?kk_MOST_OPEN ?kk_TIMES ?kl_TIMES ?z_all ?z_bool ?z_enumerate ?z_int ?z_isinstance ?z_len ?z_list ?z_range ?z_sorted ?z_str ?z_tuple ?z_zip
      (case a0 => k_is); (case l0 => k_is); (case c0 => k_is); (case k0 => k_is); (case a1 => k_is); (case l1 => k_is); (case c1 => k_is); (case k1 => k_is); (case a2 => k_is); (case l2 => k_is); (case c2 => k_is); (case k2 => k_is); (case a3 => k_is); (case l3 => k_is); (case c3 => k_is); (case k3 => k_is); (case a4 => k_is); (case l4 => k_is); (case c4 => k_is); (case k4 => k_is); (case a5 => k_is); (case l5 => k_is); (case c5 => k_is); (case k5 => k_is); (case a6 => k_is); (case l6 => k_is); (case c6 => k_is); (case k6 => k_is); (case a7 => k_is); (case l7 => k_is); (case c7 => k_is); (case k7 => k_is); (case a8 => k_is); (case l8 => k_is); (case c8 => k_is); (case k8 => k_is); (case a9 => k_is); (case l9 => k_is); (case c9 => k_is); (case k9 => k_is); (case a10 => k_is); (case l10 => k_is); (case c10 => k_is); (case k10 => k_is); (case a11 => k_is); (case l11 => k_is); (case c11 => k_is); (case k11 => k_is); (case a12 => k_is); (case l12 => k_is); (case c12 => k_is); (case k12 => k_is); (case a13 => k_is); (case l13 => k_is); (case c13 => k_is); (case k13 => k_is); (case a14 => k_is); (case l14 => k_is); (case c14 => k_is); (case k14 => k_is); (case a15 => k_is); (case l15 => k_is); (case c15 => k_is); (case k15 => k_is); (case a16 => k_is); (case l16 => k_is); (case c16 => k_is); (case k16 => k_is); (case a17 => k_is); (case l17 => k_is); (case c17 => k_is); (case k17 => k_is); (case a18 => k_is); (case l18 => k_is); (case c18 => k_is); (case k18 => k_is); (case a19 => k_is); (case l19 => k_is); (case c19 => k_is); (case k19 => k_is); (case a20 => k_is); (case l20 => k_is); (case c20 => k_is); (case k20 => k_is); (case a21 => k_is); (case l21 => k_is); (case c21 => k_is); (case k21 => k_is); (case a22 => k_is); (case l22 => k_is); (case c22 => k_is); (case k22 => k_is); (case a23 => k_is); (case l23 => k_is); (case c23 => k_is); (case k23 => k_is); (case a24 => k_is); (case l24 => k_is); (case c24 => k_is); (case k24 => k_is); (case a25 => k_is); (case l25 => k_is); (case c25 => k_is); (case k25 => k_is); (case a26 => k_is); (case l26 => k_is); (case c26 => k_is); (case k26 => k_is); (case a27 => k_is); (case l27 => k_is); (case c27 => k_is); (case k27 => k_is); (case a28 => k_is); (case l28 => k_is); (case c28 => k_is); (case k28 => k_is); (case a29 => k_is); (case l29 => k_is); (case c29 => k_is); (case k29 => k_is); (case a30 => k_is); (case l30 => k_is); (case c30 => k_is); (case k30 => k_is); (case a31 => k_is); (case l31 => k_is); (case c31 => k_is); (case k31 => k_is); (case a32 => k_is); (case l32 => k_is); (case c32 => k_is); (case k32 => k_is); (case a33 => k_is); (case l33 => k_is); (case c33 => k_is); (case k33 => k_is); (case a34 => k_is); (case l34 => k_is); (case c34 => k_is); (case k34 => k_is); (case a35 => k_is); (case l35 => k_is); (case c35 => k_is); (case k35 => k_is); (case a36 => k_is); (case l36 => k_is); (case c36 => k_is); (case k36 => k_is); (case a37 => k_is); (case l37 => k_is); (case c37 => k_is); (case k37 => k_is); (case a38 => k_is); (case l38 => k_is); (case c38 => k_is); (case k38 => k_is); (case a39 => k_is); (case l39 => k_is); (case c39 => k_is); (case k39 => k_is); (case a40 => k_is); (case l40 => k_is); (case c40 => k_is); (case k40 => k_is); (case kk_RANKS => k_is); (case kl_RANKS => k_is); (case kk_MOST_OPEN => k_is); (case kk_TIMES => k_is); (case kl_TIMES => k_is); (case z_all => k_is); (case z_bool => k_is); (case z_enumerate => k_is); (case z_int => k_is); (case z_isinstance => k_is); (case z_len => k_is); (case z_list => k_is); (case z_range => k_is); (case z_sorted => k_is); (case z_str => k_is); (case z_tuple => k_is); (case z_zip => k_is)
    obtain ⟨C, fd, hb, hf⟩ := q
    exact ⟨fd, hb, fun base h1 h2 => (hf base h1 h2).imp fun vs H Q E h => h C⟩
