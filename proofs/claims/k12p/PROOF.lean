import PyProof.Rows.All
import Wide.All
import OpenK.AllK
import Wide.FinOn
import HandS.ForMost
import HandS.ForExc
import HandS.Evl
import HandS.TryMany
import HandS.AnyAll
import HandS.Lambda
import HandS.Wide
import HandS.SortInts
import HandS.Zip
import HandS.GenOver
import HandS.Zip0
import HandS.TupMul
import HandS.Dict
import HandS.More
import HandS.ExcOwn
import HandS.EndTab
import HandS.EndOwn
import Open.Row
import PySem.Challenge.RW_lessonwright_k12_few_places_of_many
set_option Elab.async false
set_option linter.all false
set_option autoImplicit false
set_option maxRecDepth 100000
/-! Sm1: a mirror of what runs: deep values D, a store of objects that change, programs as plain functions on them, and the judgements that tie a piece of the text to its mirror. -/
namespace Sm
open PySem L2 Evl

/-- deep values; `ref n`: the n-th object of the store -/
inductive D where
  | non | bl (b : Bool) | int (i : Int) | str (s : Str)
  | tup (xs : List D) | lst (xs : List D) | dct (kvs : List (D × D))
  | ref (n : Nat)
  | fn (c : Str)
  | clo (i : Nat) (caps : List D)
inductive AO where
  | dead | lst (xs : List D) | dct (kvs : List (D × D)) | ins (c : Str) (fs : List (Str × D))
  /-- the table of a def's code objects: of generator expressions; of lambdas, all of one name -/
  | tabG (k : Nat) | tabL (k : Nat) (q : Str) | lam (i : Nat)
abbrev Sto := List AO
abbrev Env := List (Option D)
inductive Rz (α : Type) where
  | ok (a : α) (A : Sto) | exc (c : Str) (A : Sto) | no
inductive RS where
  | nx (ρ : Env) (A : Sto) | rt (d : D) (A : Sto) | bk (ρ : Env) (A : Sto) | ct (ρ : Env) (A : Sto) | exc (c : Str) (ρ : Env) (A : Sto) | no
abbrev ME := Env → Sto → Rz D
abbrev MT := Env → Sto → Rz Bool
abbrev MA := Env → Sto → Rz (List D)
/-- where the tables of code objects stand; what stands where a lambda does -/
structure Tb where
  tab : Nat → Addr
  lam : Nat → Addr → HO
structure Wt where
  w : WX
  tb : Tb
abbrev MS := Env → Sto → RS

def keyD : Key → D
  | .inl i => .int i
  | .inr x => .str x

mutual
inductive Rep (K : PySem.W.Frag) (B : Hp) (ι : List Addr) : D → V → Prop
  | non : Rep K B ι .non .non
  | bl {b} : Rep K B ι (.bl b) (.bl b)
  | int {i} : Rep K B ι (.int i) (.int i)
  | str {x} : Rep K B ι (.str x) (.str x)
  | tup {ds a vs} (h : SqT K B a vs) (r : RepL K B ι ds vs) : Rep K B ι (.tup ds) (.ref a)
  | lst {ds a vs} (h : SqL K B a vs) (r : RepL K B ι ds vs) : Rep K B ι (.lst ds) (.ref a)
  | dctK {kvs a ws} (h : B a = some (.dK ws)) (r : RepK K B ι kvs ws) : Rep K B ι (.dct kvs) (.ref a)
  | ref {n a} (h : ι[n]? = some a) : Rep K B ι (.ref n) (.ref a)
inductive RepL (K : PySem.W.Frag) (B : Hp) (ι : List Addr) : List D → List V → Prop
  | nil : RepL K B ι [] []
  | cons {d v ds vs} (h : Rep K B ι d v) (r : RepL K B ι ds vs) : RepL K B ι (d :: ds) (v :: vs)
inductive RepK (K : PySem.W.Frag) (B : Hp) (ι : List Addr) : List (D × D) → List (Key × V) → Prop
  | nil : RepK K B ι [] []
  | cons {k d v ds vs} (h : Rep K B ι d v) (r : RepK K B ι ds vs) : RepK K B ι ((keyD k, d) :: ds) ((k, v) :: vs)
end

/-- what is known grows -/
structure Le (B : Hp) (ι : List Addr) (B' : Hp) (ι' : List Addr) : Prop where
  ex : Ex B B'
  pre : ι <+: ι'
theorem Le.refl {B : Hp} {ι : List Addr} : Le B ι B ι := ⟨Ex.refl B, List.prefix_refl _⟩
theorem Le.trans {B B1 B2 : Hp} {ι ι1 ι2 : List Addr} (a : Le B ι B1 ι1) (b : Le B1 ι1 B2 ι2) : Le B ι B2 ι2 := ⟨a.ex.trans b.ex, a.pre.trans b.pre⟩
theorem Le.at {B B' : Hp} {ι ι' : List Addr} (l : Le B ι B' ι') {n : Nat} {a : Addr} (h : ι[n]? = some a) : ι'[n]? = some a := by
  obtain ⟨t, e⟩ := l.pre
  rw [← e]
  rw [List.getElem?_append_left (List.getElem?_eq_some_iff.mp h).1]
  exact h
section
variable {K : PySem.W.Frag} {B B' : Hp} {ι ι' : List Addr}
mutual
theorem Rep.mono (l : Le B ι B' ι') : ∀ {d : D} {v : V}, Rep K B ι d v → Rep K B' ι' d v
  | _, _, .non => .non
  | _, _, .bl => .bl
  | _, _, .int => .int
  | _, _, .str => .str
  | _, _, .tup h r => .tup (ex_t l.ex h) (RepL.mono l r)
  | _, _, .lst h r => .lst (ex_l l.ex h) (RepL.mono l r)
  | _, _, .dctK h r => .dctK (l.ex _ _ h) (RepK.mono l r)
  | _, _, .ref h => .ref (l.at h)
theorem RepL.mono (l : Le B ι B' ι') : ∀ {ds : List D} {vs : List V}, RepL K B ι ds vs → RepL K B' ι' ds vs
  | _, _, .nil => .nil
  | _, _, .cons h r => .cons (Rep.mono l h) (RepL.mono l r)
theorem RepK.mono (l : Le B ι B' ι') : ∀ {ds : List (D × D)} {vs : List (Key × V)}, RepK K B ι ds vs → RepK K B' ι' ds vs
  | _, _, .nil => .nil
  | _, _, .cons h r => .cons (Rep.mono l h) (RepK.mono l r)
end
theorem RepL.length : ∀ {ds : List D} {vs : List V}, RepL K B ι ds vs → vs.length = ds.length
  | _, _, .nil => rfl
  | _, _, .cons _ r => by simp [RepL.length r]
theorem RepK.length : ∀ {ds : List (D × D)} {vs : List (Key × V)}, RepK K B ι ds vs → vs.length = ds.length
  | _, _, .nil => rfl
  | _, _, .cons _ r => by simp [RepK.length r]
theorem RepL.append : ∀ {ds es : List D} {vs ws : List V}, RepL K B ι ds vs → RepL K B ι es ws → RepL K B ι (ds ++ es) (vs ++ ws)
  | _, _, _, _, .nil, r => r
  | _, _, _, _, .cons h r, q => .cons h (RepL.append r q)
theorem RepL.get : ∀ {ds : List D} {vs : List V} {i : Nat} {d : D}, RepL K B ι ds vs → ds[i]? = some d → ∃ v, vs[i]? = some v ∧ Rep K B ι d v
  | _, _, _, _, .nil, e => by simp at e
  | _, _, 0, _, .cons h _, e => by simp at e; subst e; exact ⟨_, rfl, h⟩
  | _, _, i + 1, d, .cons _ r, e => by
    obtain ⟨v, h1, h2⟩ := RepL.get (i := i) (d := d) r (by simpa using e)
    exact ⟨v, by simpa using h1, h2⟩
theorem RepL.get' : ∀ {ds : List D} {vs : List V} {i : Nat} {v : V}, RepL K B ι ds vs → vs[i]? = some v → ∃ d, ds[i]? = some d ∧ Rep K B ι d v
  | _, _, _, _, .nil, e => by simp at e
  | _, _, 0, _, .cons h _, e => by simp at e; subst e; exact ⟨_, rfl, h⟩
  | _, _, i + 1, d, .cons _ r, e => by
    obtain ⟨v, h1, h2⟩ := RepL.get' (i := i) (v := d) r (by simpa using e)
    exact ⟨v, by simpa using h1, h2⟩
theorem RepL.set {d : D} {v : V} (h : Rep K B ι d v) : ∀ {ds : List D} {vs : List V} (i : Nat), RepL K B ι ds vs → RepL K B ι (ds.set i d) (vs.set i v)
  | _, _, _, .nil => .nil
  | _, _, 0, .cons _ r => .cons h r
  | _, _, i + 1, .cons q r => .cons q (RepL.set h i r)
theorem RepL.take : ∀ {ds : List D} {vs : List V} (n : Nat), RepL K B ι ds vs → RepL K B ι (ds.take n) (vs.take n)
  | _, _, 0, _ => by simp; exact .nil
  | _, _, _ + 1, .nil => .nil
  | _, _, n + 1, .cons h r => .cons h (RepL.take n r)
theorem RepL.drop : ∀ {ds : List D} {vs : List V} (n : Nat), RepL K B ι ds vs → RepL K B ι (ds.drop n) (vs.drop n)
  | _, _, 0, r => r
  | _, _, _ + 1, .nil => .nil
  | _, _, n + 1, .cons _ r => RepL.drop n r
theorem RepL.reverse : ∀ {ds : List D} {vs : List V}, RepL K B ι ds vs → RepL K B ι ds.reverse vs.reverse
  | _, _, .nil => .nil
  | _, _, .cons h r => by
    rw [List.reverse_cons, List.reverse_cons]
    exact (RepL.reverse r).append (.cons h .nil)
end

/-- an object of the store stands at a -/
def AOk (K : PySem.W.Frag) (mg : Str → Option Value) (tb : Tb) (B : Hp) (ι : List Addr) (H : Hp) (a : Addr) : AO → Prop
  | .dead => True
  | .lst ds => ∃ vs, H a = some (.lst vs) ∧ RepL K B ι ds vs
  | .dct kvs => ∃ ws, H a = some (.dK ws) ∧ RepK K B ι kvs ws
  | .ins c fs => ∃ C dx vs, mg c = some (.ref C) ∧ H a = some (.ins C dx ((fs.map (·.1)).zip vs)) ∧ RepL K B ι (fs.map (·.2)) vs
  | .tabG k => a = tb.tab k ∧ ∃ ps : Array Value, H a = some (.tbl ps) ∧ TriplesOk ps.toList
  | .tabL k q => a = tb.tab k ∧ ∃ ps : Array Value, H a = some (.tbl ps) ∧ TriplesOk ps.toList ∧ ∀ (pos : Pos) (cv : Value), codeAmong pos ps.toList = some cv → ∃ c, cv = .ref c ∧ B c = some (LamX.CodeO c q)
  | .lam i => H a = some (tb.lam i a)
def AO.live : AO → Bool
  | .dead => false
  | _ => true
structure Good (K : PySem.W.Frag) (mg : Str → Option Value) (tb : Tb) (F B : Hp) (ι : List Addr) (A : Sto) (H : Hp) : Prop where
  ex : Ex B H
  fr : Ex F H
  fl : ∀ (a : Addr) (o : HO), F a = some o → ∃ us, o = .lst us
  dis : ∀ (a : Addr) (o : HO), F a = some o → B a = none
  len : ι.length = A.length
  obj : ∀ (n : Nat) (a : Addr) (o : AO), ι[n]? = some a → A[n]? = some o → AOk K mg tb B ι H a o
  free : ∀ (n : Nat) (a : Addr) (o : AO), ι[n]? = some a → A[n]? = some o → o.live = true → B a = none ∧ F a = none
  inj : ∀ (n m : Nat) (a : Addr) (o u : AO), ι[n]? = some a → ι[m]? = some a → A[n]? = some o → A[m]? = some u → o.live = true → u.live = true → n = m
def EnvOk (K : PySem.W.Frag) (B : Hp) (ι : List Addr) (ρ : Env) (σ : L2.St) : Prop :=
  ρ.length = σ.length ∧ ∀ (i : Nat) (d : D), ρ[i]? = some (some d) → ∃ v, σ[i]? = some (some v) ∧ Rep K B ι d v
section
variable {K : PySem.W.Frag} {mg : Str → Option Value} {tb : Tb} {F B B' H H' : Hp} {ι ι' : List Addr} {A : Sto} {ρ : Env} {σ : L2.St}
theorem EnvOk.mono (l : Le B ι B' ι') (e : EnvOk K B ι ρ σ) : EnvOk K B' ι' ρ σ := ⟨e.1, fun i d h => by
  obtain ⟨v, h1, h2⟩ := e.2 i d h
  exact ⟨v, h1, h2.mono l⟩⟩
theorem EnvOk.set {d : D} {v : V} (e : EnvOk K B ι ρ σ) (i : Nat) (r : Rep K B ι d v) : EnvOk K B ι (ρ.set i (some d)) (σ.set i (some v)) := by
  refine ⟨by simp [e.1], fun j d' h => ?_⟩
  by_cases hj : j = i
  · subst hj
    by_cases hl : j < ρ.length
    · rw [List.getElem?_set_self hl] at h
      have q := Option.some.inj (Option.some.inj h)
      subst q
      exact ⟨v, List.getElem?_set_self (by rw [← e.1]; exact hl), r⟩
    · rw [List.getElem?_eq_none (by simpa using hl)] at h
      cases h
  · rw [List.getElem?_set_ne (Ne.symm hj)] at h
    obtain ⟨w, h1, h2⟩ := e.2 j d' h
    exact ⟨w, by rw [List.getElem?_set_ne (Ne.symm hj)]; exact h1, h2⟩
theorem AOk.mono {a : Addr} {o : AO} (l : Le B ι B' ι') (h : AOk K mg tb B ι H a o) (e : ∀ u, H a = some u → H' a = some u) : AOk K mg tb B' ι' H' a o := by
  cases o with
  | dead => trivial
  | lst ds => obtain ⟨vs, h1, h2⟩ := h; exact ⟨vs, e _ h1, h2.mono l⟩
  | dct ds => obtain ⟨vs, h1, h2⟩ := h; exact ⟨vs, e _ h1, h2.mono l⟩
  | ins c fs => obtain ⟨C, dx, vs, h0, h1, h2⟩ := h; exact ⟨C, dx, vs, h0, e _ h1, h2.mono l⟩
  | tabG k => obtain ⟨h0, ps, h1, h2⟩ := h; exact ⟨h0, ps, e _ h1, h2⟩
  | lam i => exact e _ h
  | tabL k q => obtain ⟨h0, ps, h1, h2, h3⟩ := h; exact ⟨h0, ps, e _ h1, h2, fun pos cv hc => by obtain ⟨c, e1, e2⟩ := h3 pos cv hc; exact ⟨c, e1, l.ex _ _ e2⟩⟩
theorem AOk.some {a : Addr} {o : AO} (h : AOk K mg tb B ι H a o) (hl : o.live = true) : ∃ u, H a = some u := by
  cases o with
  | dead => cases hl
  | lst ds => obtain ⟨vs, h1, h2⟩ := h; exact ⟨_, h1⟩
  | dct ds => obtain ⟨vs, h1, h2⟩ := h; exact ⟨_, h1⟩
  | ins c fs => obtain ⟨C, dx, vs, h0, h1, h2⟩ := h; exact ⟨_, h1⟩
  | tabG k => obtain ⟨h0, ps, h1, h2⟩ := h; exact ⟨_, h1⟩
  | tabL k q => obtain ⟨h0, ps, h1, h2, h3⟩ := h; exact ⟨_, h1⟩
  | lam i => exact ⟨_, h⟩
/-- the heap grows -/
theorem Good.grow (g : Good K mg tb F B ι A H) (e : Ex H H') : Good K mg tb F B ι A H' :=
  ⟨g.ex.trans e, g.fr.trans e, g.fl, g.dis, g.len, fun n a o h1 h2 => (g.obj n a o h1 h2).mono Le.refl fun u q => e a u q, g.free, g.inj⟩
/-- a new known object -/
theorem Good.newB {p : Addr} {o : HO} (g : Good K mg tb F B ι A H) (hp : H p = none) : Good K mg tb F (upd B p o) ι A (upd H p o) ∧ Le B ι (upd B p o) ι := by
  have hB : B p = none := fresh_back g.ex hp
  have l : Le B ι (upd B p o) ι := ⟨Ex.new hB, List.prefix_refl _⟩
  refine ⟨⟨fun a u e => ?_, g.fr.trans (Ex.new hp), g.fl, (fun a u e => by rw [upd_ne (ne_of_none (g.fr a u e) hp)]; exact g.dis a u e), g.len, fun n a u h1 h2 => (g.obj n a u h1 h2).mono l fun w q => ?_, fun n a u h1 h2 h3 => ?_, g.inj⟩, l⟩
  · by_cases ha : a = p
    · subst ha; rw [upd_same] at e ⊢; exact e
    · rw [upd_ne ha] at e ⊢; exact g.ex a u e
  · rw [upd_ne (ne_of_none q hp)]; exact q
  · obtain ⟨w, q⟩ := (g.obj n a u h1 h2).some h3
    rw [upd_ne (ne_of_none q hp)]
    exact g.free n a u h1 h2 h3
/-- an object that is there and in no one's hands becomes known -/
theorem Good.fresh {p : Addr} (g : Good K mg tb F B ι A H) (hp : H p = none) : ∀ (n : Nat) (u : AO), ι[n]? = some p → A[n]? = some u → u.live = true → False := fun n u h1 h2 h3 => by
  obtain ⟨w, q⟩ := (g.obj n p u h1 h2).some h3
  rw [hp] at q; cases q
theorem Good.frz {p : Addr} {o : HO} (g : Good K mg tb F B ι A H) (hp : H p = some o) (hB : B p = none) (hF : F p = none) (hι : ∀ (n : Nat) (u : AO), ι[n]? = some p → A[n]? = some u → u.live = true → False) : Good K mg tb F (upd B p o) ι A H ∧ Le B ι (upd B p o) ι := by
  have l : Le B ι (upd B p o) ι := ⟨Ex.new hB, List.prefix_refl _⟩
  refine ⟨⟨fun a u e => ?_, g.fr, g.fl, (fun a u e => by rw [upd_ne (ne_of_none e hF)]; exact g.dis a u e), g.len, fun n a u h1 h2 => (g.obj n a u h1 h2).mono l fun w q => q, fun n a u h1 h2 h3 => ?_, g.inj⟩, l⟩
  · by_cases ha : a = p
    · subst ha; rw [upd_same] at e; rw [hp]; exact e
    · rw [upd_ne ha] at e; exact g.ex a u e
  · rw [upd_ne (fun z => hι n u (by rw [← z]; exact h1) h2 h3)]
    exact g.free n a u h1 h2 h3
/-- .. or an object of the store -/
theorem Good.own {p : Addr} {o : AO} (g : Good K mg tb F B ι A H) (hB : B p = none) (hF : F p = none) (hι : ∀ (n : Nat) (u : AO), ι[n]? = some p → A[n]? = some u → u.live = true → False) (ok : AOk K mg tb B (ι ++ [p]) H p o) : Good K mg tb F B (ι ++ [p]) (A ++ [o]) H ∧ Le B ι B (ι ++ [p]) := by
  have l : Le B ι B (ι ++ [p]) := ⟨Ex.refl B, List.prefix_append _ _⟩
  have split : ∀ {n : Nat} {a : Addr}, (ι ++ [p])[n]? = some a → (n < ι.length ∧ ι[n]? = some a) ∨ (n = ι.length ∧ a = p) := fun {n a} h => by
    by_cases hn : n < ι.length
    · rw [List.getElem?_append_left hn] at h; exact .inl ⟨hn, h⟩
    · have hl := (List.getElem?_eq_some_iff.mp h).1
      simp at hl
      have e : n = ι.length := by omega
      subst e
      simp at h
      exact .inr ⟨rfl, h.symm⟩
  have atA : ∀ {n : Nat} {u : AO}, n < ι.length → (A ++ [o])[n]? = some u → A[n]? = some u := fun {n u} hn h => by
    rw [List.getElem?_append_left (by rw [← g.len]; exact hn)] at h; exact h
  refine ⟨⟨g.ex, g.fr, g.fl, g.dis, by simp [g.len], fun n a u h1 h2 => ?_, fun n a u h1 h2 h3 => ?_, fun n m a u w h1 h2 h3 h4 h5 h6 => ?_⟩, l⟩
  · rcases split h1 with ⟨hn, q⟩ | ⟨hn, q⟩
    · exact (g.obj n a u q (atA hn h2)).mono l fun _ z => z
    · subst hn q
      rw [g.len] at h2
      simp at h2
      subst h2
      exact ok
  · rcases split h1 with ⟨hn, q⟩ | ⟨hn, q⟩
    · exact g.free n a u q (atA hn h2) h3
    · rw [q]; exact ⟨hB, hF⟩
  · rcases split h1 with ⟨hn, q⟩ | ⟨hn, q⟩ <;> rcases split h2 with ⟨hm, q'⟩ | ⟨hm, q'⟩
    · exact g.inj n m a u w q q' (atA hn h3) (atA hm h4) h5 h6
    · rw [q'] at q; exact (hι n u q (atA hn h3) h5).elim
    · rw [q] at q'; exact (hι m w q' (atA hm h4) h6).elim
    · rw [hn, hm]
/-- an object of the store is written -/
theorem Good.wr {n : Nat} {p : Addr} {o u : AO} {x : HO} (g : Good K mg tb F B ι A H) (hn : ι[n]? = some p) (hA : A[n]? = some o) (hl : o.live = true) (ok : AOk K mg tb B ι (upd H p x) p u) : Good K mg tb F B ι (A.set n u) (upd H p x) := by
  obtain ⟨hB, hF⟩ := g.free n p o hn hA hl
  have hnl : n < A.length := (List.getElem?_eq_some_iff.mp hA).1
  refine ⟨fun a w e => ?_, fun a w e => ?_, g.fl, g.dis, by simp [g.len], fun m a w h1 h2 => ?_, fun m a w h1 h2 h3 => ?_, fun m k a w z h1 h2 h3 h4 h5 h6 => ?_⟩
  · rw [upd_ne (ne_of_none e hB)]; exact g.ex a w e
  · rw [upd_ne (ne_of_none e hF)]; exact g.fr a w e
  · by_cases hm : m = n
    · subst hm
      rw [hn] at h1; cases h1
      rw [List.getElem?_set_self hnl] at h2; cases h2
      exact ok
    · rw [List.getElem?_set_ne (Ne.symm hm)] at h2
      cases hlw : w.live with
      | false => cases w with
        | dead => trivial
        | lst _ => cases hlw
        | dct _ => cases hlw
        | ins _ _ => cases hlw
        | tabG _ => cases hlw
        | tabL _ _ => cases hlw
        | lam _ => cases hlw
      | true =>
        refine (g.obj m a w h1 h2).mono Le.refl fun z q => ?_
        rw [upd_ne fun e => hm (g.inj m n a w o h1 (by rw [e]; exact hn) h2 hA hlw hl)]
        exact q
  · by_cases hm : m = n
    · subst hm; rw [hn] at h1; cases h1; exact ⟨hB, hF⟩
    · rw [List.getElem?_set_ne (Ne.symm hm)] at h2
      exact g.free m a w h1 h2 h3
  · have real : ∀ {j : Nat} {y : AO}, (A.set n u)[j]? = some y → ι[j]? = some a → y.live = true → ∃ y', A[j]? = some y' ∧ y'.live = true := fun {j y} q1 q2 q3 => by
      by_cases hj : j = n
      · subst hj; exact ⟨o, hA, hl⟩
      · rw [List.getElem?_set_ne (Ne.symm hj)] at q1
        exact ⟨y, q1, q3⟩
    obtain ⟨w', a1, a2⟩ := real h3 h1 h5
    obtain ⟨z', b1, b2⟩ := real h4 h2 h6
    exact g.inj m k a w' z' h1 h2 a1 b1 a2 b2
end

/-! ### what is wanted behind a piece -/
section
variable (X : Cx) (W : Wt) (σ : L2.St) (F B : Hp) (ι : List Addr)
def ExcP (c : Str) (A' : Sto) : Prop := ∀ B' ι' H', Le B ι B' ι' → Good X.K X.mg W.tb F B' ι' A' H' → ∀ u, X.mg c = some u → W.w u none σ H'
def Post {α : Type} (r : Rz α) (k : α → Sto → Prop) : Prop := match r with
  | .ok a A' => k a A'
  | .exc c A' => ExcP X W σ F B ι c A'
  | .no => False
def PostE (r : Rz D) (Q : VK) : Prop := Post X W σ F B ι r fun d A' => ∀ B' ι' H' v, Le B ι B' ι' → Good X.K X.mg W.tb F B' ι' A' H' → Rep X.K B' ι' d v → Q v H'
def PostL (r : Rz (List D)) (Q : VK) : Prop := Post X W σ F B ι r fun ds A' => ∀ B' ι' H' p vs, Le B ι B' ι' → Good X.K X.mg W.tb F B' ι' A' H' → H' p = some (.lst vs) → B' p = none → F p = none → (∀ (n : Nat) (u : AO), ι'[n]? = some p → A'[n]? = some u → u.live = true → False) → RepL X.K B' ι' ds vs → Q (.ref p) H'
def PostT (r : Rz Bool) (Q : Bool → Hp → Prop) : Prop := Post X W σ F B ι r fun b A' => ∀ B' ι' H', Le B ι B' ι' → Good X.K X.mg W.tb F B' ι' A' H' → Q b H'
def PostA (r : Rz (List D)) (Q : List V → Hp → Prop) : Prop := Post X W σ F B ι r fun ds A' => ∀ B' ι' H' vs, Le B ι B' ι' → Good X.K X.mg W.tb F B' ι' A' H' → RepL X.K B' ι' ds vs → Q vs H'
def PostS (r : RS) (E : Ends) : Prop := match r with
  | .nx ρ A' => ∀ B' ι' H' σ', Le B ι B' ι' → Good X.K X.mg W.tb F B' ι' A' H' → EnvOk X.K B' ι' ρ σ' → E.nx σ' H'
  | .bk ρ A' => ∀ B' ι' H' σ', Le B ι B' ι' → Good X.K X.mg W.tb F B' ι' A' H' → EnvOk X.K B' ι' ρ σ' → E.bk σ' H'
  | .ct ρ A' => ∀ B' ι' H' σ', Le B ι B' ι' → Good X.K X.mg W.tb F B' ι' A' H' → EnvOk X.K B' ι' ρ σ' → E.ct σ' H'
  | .rt d A' => ∀ B' ι' H' v, Le B ι B' ι' → Good X.K X.mg W.tb F B' ι' A' H' → Rep X.K B' ι' d v → E.rt v H'
  | .exc c ρ A' => ∀ B' ι' H' σ', Le B ι B' ι' → Good X.K X.mg W.tb F B' ι' A' H' → EnvOk X.K B' ι' ρ σ' → ∀ u, X.mg c = some u → W.w u none σ' H'
  | .no => False
end
section
variable (X : Cx) (W : Wt)
def tM (m : ME) : TE := fun σ H Q => ∃ ρ A F B ι, Good X.K X.mg W.tb F B ι A H ∧ EnvOk X.K B ι ρ σ ∧ PostE X W σ F B ι (m ρ A) Q
def tML (m : MA) : TE := fun σ H Q => ∃ ρ A F B ι, Good X.K X.mg W.tb F B ι A H ∧ EnvOk X.K B ι ρ σ ∧ PostL X W σ F B ι (m ρ A) Q
def tMT (m : MT) : TT := fun σ H Q => ∃ ρ A F B ι, Good X.K X.mg W.tb F B ι A H ∧ EnvOk X.K B ι ρ σ ∧ PostT X W σ F B ι (m ρ A) Q
def tMA (m : MA) : TA := fun σ H Q => ∃ ρ A F B ι, Good X.K X.mg W.tb F B ι A H ∧ EnvOk X.K B ι ρ σ ∧ PostA X W σ F B ι (m ρ A) Q
def tMS (m : MS) : TS := fun D σ H => ∃ ρ A F B ι, Good X.K X.mg W.tb F B ι A H ∧ EnvOk X.K B ι ρ σ ∧ PostS X W F B ι (m ρ A) D
/-- an expression, a fresh list, a test, arguments, a statement, statements and their mirrors -/
def SE (e : Expr) (m : ME) : Prop := PE X e (tM X W m)
def SL (e : Expr) (m : MA) : Prop := PE X e (tML X W m)
def ST (e : Expr) (m : MT) : Prop := PT X e (tMT X W m)
def SA (es : List Expr) (m : MA) : Prop := PA X es (tMA X W m)
def SS (s : Stmt) (m : MS) : Prop := PS X s (tMS X W m)
def SSs (s : List Stmt) (m : MS) : Prop := PSs X s (tMS X W m)
end
/-! ### from a reading to a mirror -/
section
variable {X : Cx} {W : Wt} {e : Expr} {es : List Expr} {s : Stmt} {ss : List Stmt}
theorem _root_.L2.PE.to {t u : TE} (h : PE X e t) (k : ∀ σ H Q, u σ H Q → t σ H Q) : PE X e u := ⟨fun pins s σ H Q I q => h.run pins s σ H Q I (k σ H Q q)⟩
theorem _root_.L2.PT.to {t u : TT} (h : PT X e t) (k : ∀ σ H Q, u σ H Q → t σ H Q) : PT X e u := ⟨fun pins s σ H Q I q => h.run pins s σ H Q I (k σ H Q q)⟩
theorem _root_.L2.PA.to {t u : TA} (h : PA X es t) (k : ∀ σ H Q, u σ H Q → t σ H Q) : PA X es u := ⟨fun pos pins s σ H Q I q => h.run pos pins s σ H Q I (k σ H Q q)⟩
theorem _root_.L2.PS.to {t u : TS} (h : PS X s t) (k : ∀ D σ H, u D σ H → t D σ H) : PS X s u := ⟨fun pins s σ H D I q => h.run pins s σ H D I (k D σ H q)⟩
theorem _root_.L2.PSs.to {t u : TS} (h : PSs X ss t) (k : ∀ D σ H, u D σ H → t D σ H) : PSs X ss u := ⟨fun pins s σ H D I q => h.run pins s σ H D I (k D σ H q)⟩
variable {σ : L2.St} {F B B' : Hp} {ι ι' : List Addr}
theorem ExcP.mono {c : Str} {A : Sto} (l : Le B ι B' ι') (h : ExcP X W σ F B ι c A) : ExcP X W σ F B' ι' c A := fun B2 ι2 H2 l2 g => h B2 ι2 H2 (l.trans l2) g
theorem Post.mono {α : Type} {r : Rz α} {k k' : α → Sto → Prop} (l : Le B ι B' ι') (h : Post X W σ F B ι r k) (hk : ∀ a A, k a A → k' a A) : Post X W σ F B' ι' r k' := by
  cases r with
  | ok d A => exact hk d A h
  | exc c A => exact ExcP.mono (A := A) l h
  | no => exact h
theorem PostE.mono {r : Rz D} {Q : VK} (l : Le B ι B' ι') (h : PostE X W σ F B ι r Q) : PostE X W σ F B' ι' r Q := Post.mono l h fun _ _ h B2 ι2 H2 v l2 => h B2 ι2 H2 v (l.trans l2)
theorem PostL.mono {r : Rz (List D)} {Q : VK} (l : Le B ι B' ι') (h : PostL X W σ F B ι r Q) : PostL X W σ F B' ι' r Q := Post.mono l h fun _ _ h B2 ι2 H2 p v l2 => h B2 ι2 H2 p v (l.trans l2)
theorem PostT.mono {r : Rz Bool} {Q : Bool → Hp → Prop} (l : Le B ι B' ι') (h : PostT X W σ F B ι r Q) : PostT X W σ F B' ι' r Q := Post.mono l h fun _ _ h B2 ι2 H2 l2 => h B2 ι2 H2 (l.trans l2)
theorem PostA.mono {r : Rz (List D)} {Q : List V → Hp → Prop} (l : Le B ι B' ι') (h : PostA X W σ F B ι r Q) : PostA X W σ F B' ι' r Q := Post.mono l h fun _ _ h B2 ι2 H2 v l2 => h B2 ι2 H2 v (l.trans l2)
theorem PostS.mono {r : RS} {E : Ends} (l : Le B ι B' ι') (h : PostS X W F B ι r E) : PostS X W F B' ι' r E := by
  cases r with
  | nx d A => exact fun B2 ι2 H2 v l2 => h B2 ι2 H2 v (l.trans l2)
  | bk d A => exact fun B2 ι2 H2 v l2 => h B2 ι2 H2 v (l.trans l2)
  | ct d A => exact fun B2 ι2 H2 v l2 => h B2 ι2 H2 v (l.trans l2)
  | rt d A => exact fun B2 ι2 H2 v l2 => h B2 ι2 H2 v (l.trans l2)
  | exc c ρ A => exact fun B2 ι2 H2 v l2 => h B2 ι2 H2 v (l.trans l2)
  | no => exact h

/-! ### names, constants -/
def mV (i : Nat) : ME := fun ρ A => match ρ[i]? with
  | some (some d) => .ok d A
  | _ => .no
def mC (d : D) : ME := fun _ A => .ok d A
theorem se_var {i : Nat} {pos : Pos} {x : Str} (h : PE X (.Name x pos) (tVar i)) : SE X W (.Name x pos) (mV i) := h.to fun σ H Q ⟨ρ, A, F, B, ι, g, ev, q⟩ => by
  unfold mV at q
  split at q
  · rename_i d hd
    obtain ⟨v, h1, h2⟩ := ev.2 i d hd
    exact ⟨v, h1, q B ι H v Le.refl g h2⟩
  · exact q.elim
theorem se_c {d : D} {v : V} (h : PE X e (tC v)) (r : ∀ B ι, Rep X.K B ι d v) : SE X W e (mC d) := h.to fun σ H Q ⟨ρ, A, F, B, ι, g, ev, q⟩ => q B ι H v Le.refl g (r B ι)
theorem se_int {i j pos} : SE X W (.Constant (.int i) j pos) (mC (.int i)) := se_c pe_int fun _ _ => .int
theorem se_bl {b j pos} : SE X W (.Constant (.bool b) j pos) (mC (.bl b)) := se_c pe_bl fun _ _ => .bl
theorem se_non {j pos} : SE X W (.Constant .none j pos) (mC .non) := se_c pe_non fun _ _ => .non
theorem se_str {x j pos} : SE X W (.Constant (.str x) j pos) (mC (.str x)) := se_c pe_str fun _ _ => .str

/-! ### two behind one another -/
def bd {α β : Type} (m : Env → Sto → Rz α) (k : α → Env → Sto → Rz β) : Env → Sto → Rz β := fun ρ A => match m ρ A with
  | .ok d A' => k d ρ A'
  | .exc c A' => .exc c A'
  | .no => .no
theorem Post.bind {α β : Type} {m : Env → Sto → Rz α} {k : α → Env → Sto → Rz β} {ρ : Env} {A : Sto} {Q : β → Sto → Prop} (q : Post X W σ F B ι (bd m k ρ A) Q) : Post X W σ F B ι (m ρ A) fun a A' => Post X W σ F B ι (k a ρ A') Q := by
  unfold bd at q
  cases hm : m ρ A with
  | ok d A' => rw [hm] at q; exact q
  | exc c A' => rw [hm] at q; exact q
  | no => rw [hm] at q; exact q
theorem Post.imp {α : Type} {r : Rz α} {k k' : α → Sto → Prop} (h : Post X W σ F B ι r k) (hk : ∀ a A, k a A → k' a A) : Post X W σ F B ι r k' := Post.mono Le.refl h hk
def op {α : Type} (o : Option α) : Env → Sto → Rz α := fun _ A => match o with
  | some a => .ok a A
  | none => .no
theorem Post.opt {α : Type} {o : Option α} {ρ : Env} {A : Sto} {Q : α → Sto → Prop} (q : Post X W σ F B ι (op o ρ A) Q) : ∃ a, o = some a ∧ Q a A := by
  unfold op at q
  cases o with
  | some a => exact ⟨a, rfl, q⟩
  | none => exact q.elim
end
end Sm

set_option Elab.async false
set_option linter.all false
set_option autoImplicit false
set_option maxRecDepth 100000
set_option maxHeartbeats 1000000
/-! Sm2: operators, tests, displays, subscripts. -/
namespace Sm
open PySem L2 Evl
section
variable {X : Cx} {W : Wt} {a b c e : Expr} {es : List Expr} {pos : Pos} {ma mb mc : ME}

/-- a two-place operation on values, told by f; the store is read only -/
def Op2 (X : Cx) (f : Sto → D → D → Option D) (r : R2) : Prop := ∀ {tb : Tb} {F B : Hp} {ι : List Addr} {A : Sto} {H : Hp} {x y : D} {v u : V} {d : D} {Q : VK},
  Good X.K X.mg tb F B ι A H → Rep X.K B ι x v → Rep X.K B ι y u → f A x y = some d → (∀ B' ι' H' w, Le B ι B' ι' → Good X.K X.mg tb F B' ι' A H' → Rep X.K B' ι' d w → Q w H') → r v u H Q
def Op1 (X : Cx) (f : Sto → D → Option D) (r : V → Hp → VK → Prop) : Prop := ∀ {tb : Tb} {F B : Hp} {ι : List Addr} {A : Sto} {H : Hp} {x : D} {v : V} {d : D} {Q : VK},
  Good X.K X.mg tb F B ι A H → Rep X.K B ι x v → f A x = some d → (∀ B' ι' H' w, Le B ι B' ι' → Good X.K X.mg tb F B' ι' A H' → Rep X.K B' ι' d w → Q w H') → r v H Q
def OpN (X : Cx) (f : Sto → List D → Option D) (r : List V → Hp → VK → Prop) : Prop := ∀ {tb : Tb} {F B : Hp} {ι : List Addr} {A : Sto} {H : Hp} {xs : List D} {vs : List V} {d : D} {Q : VK},
  Good X.K X.mg tb F B ι A H → RepL X.K B ι xs vs → f A xs = some d → (∀ B' ι' H' w, Le B ι B' ι' → Good X.K X.mg tb F B' ι' A H' → Rep X.K B' ι' d w → Q w H') → r vs H Q
def rd {α : Type} (f : Sto → Option α) : Env → Sto → Rz α := fun _ A => match f A with
  | some a => .ok a A
  | none => .no
theorem Post.rd {σ : L2.St} {F B : Hp} {ι : List Addr} {α : Type} {f : Sto → Option α} {ρ : Env} {A : Sto} {Q : α → Sto → Prop} (q : Post X W σ F B ι (rd f ρ A) Q) : ∃ a, f A = some a ∧ Q a A := by
  unfold Sm.rd at q
  cases hf : f A with
  | some a => rw [hf] at q; exact ⟨a, rfl, q⟩
  | none => rw [hf] at q; exact q.elim
def mB (f : Sto → D → D → Option D) (ma mb : ME) : ME := bd ma fun x => bd mb fun y => rd fun A => f A x y
def mU (f : Sto → D → Option D) (ma : ME) : ME := bd ma fun x => rd fun A => f A x
def mN (f : Sto → List D → Option D) (m : MA) : ME := bd m fun xs => rd fun A => f A xs
theorem tOp_of {r : R2} {f : Sto → D → D → Option D} (hf : Op2 X f r) {σ : L2.St} {H : Hp} {Q : VK} (q : tM X W (mB f ma mb) σ H Q) : tOp r (tM X W ma) (tM X W mb) σ H Q := by
  obtain ⟨ρ, A, F, B, ι, g, ev, q⟩ := q
  refine ⟨ρ, A, F, B, ι, g, ev, q.bind.imp fun x A1 q1 B1 ι1 H1 v l1 g1 r1 => ⟨ρ, A1, F, B1, ι1, g1, ev.mono l1, ?_⟩⟩
  refine (q1.bind).mono l1 fun y A2 q2 B2 ι2 H2 u l2 g2 r2 => ?_
  obtain ⟨d, hd, q3⟩ := q2.rd
  exact hf g2 (r1.mono l2) r2 hd fun B3 ι3 H3 w l3 => q3 B3 ι3 H3 w ((l1.trans l2).trans l3)
theorem se_op {o : Operator} {r : R2} {f : Sto → D → D → Option D} (ho : OpR X (binaryOp o) r) (hf : Op2 X f r) (ha : SE X W a ma) (hb : SE X W b mb) : SE X W (.BinOp a o b pos) (mB f ma mb) :=
  (pe_op ho ha hb).to fun _ _ _ q => tOp_of hf q
theorem se_cmp {o : CmpOp} {r : R2} {f : Sto → D → D → Option D} (ho : OpR X (compareOp o) r) (hf : Op2 X f r) (ha : SE X W a ma) (hb : SE X W b mb) (hm : behindInMarks o b = false) : SE X W (.Compare a [o] [b] pos) (mB f ma mb) :=
  (pe_cmpR ho ha hb hm).to fun _ _ _ q => tOp_of hf q
theorem se_un {o : UnaryOp} {r : V → Hp → VK → Prop} {f : Sto → D → Option D} (ho : UnR X (unaryOp o) r) (hf : Op1 X f r) (ha : SE X W a ma) : SE X W (.UnaryOp o a pos) (mU f ma) :=
  (pe_un ho ha).to fun σ H Q q => by
    obtain ⟨ρ, A, F, B, ι, g, ev, q⟩ := q
    refine ⟨ρ, A, F, B, ι, g, ev, q.bind.imp fun x A1 q1 B1 ι1 H1 v l1 g1 r1 => ?_⟩
    obtain ⟨d, hd, q2⟩ := q1.rd
    exact hf g1 r1 hd fun B2 ι2 H2 w l2 => q2 B2 ι2 H2 w (l1.trans l2)
/-- a bool out of a value: tests -/
def asB (m : ME) : MT := bd m fun d => op (match d with | .bl b => some b | _ => none)
theorem tTest_of {t : TE} {m : ME} (h : ∀ σ H Q, tM X W m σ H Q → t σ H Q) {σ : L2.St} {H : Hp} {Q : Bool → Hp → Prop} (q : tMT X W (asB m) σ H Q) : tTest t σ H Q := by
  obtain ⟨ρ, A, F, B, ι, g, ev, q⟩ := q
  refine h _ _ _ ⟨ρ, A, F, B, ι, g, ev, q.bind.imp fun x A1 q1 B1 ι1 H1 v l1 g1 r1 => ?_⟩
  obtain ⟨k, hk, q2⟩ := q1.opt
  cases x <;> simp at hk
  subst hk
  cases r1
  exact ⟨_, rfl, q2 B1 ι1 H1 l1 g1⟩
theorem st_cmp {o : CmpOp} {r : R2} {f : Sto → D → D → Option D} (ho : OpR X (compareOp o) r) (hf : Op2 X f r) (ha : SE X W a ma) (hb : SE X W b mb) (hm : behindInMarks o b = false) : ST X W (.Compare a [o] [b] pos) (asB (mB f ma mb)) :=
  (pt_cmpR ho ha hb hm).to fun _ _ _ q => tTest_of (fun _ _ _ q => tOp_of hf q) q
/-- a value that is a bool, as a test -/
theorem st_val (h : SE X W e ma) (he : ∀ whole, isTrue e X.env whole = (do let v ← whole; standAt e.pos; holding [v] (truthy v)) := by intro _; rfl) : ST X W e (asB ma) :=
  (pt_val h he).to fun σ H Q q => tTest_of (t := tM X W ma) (fun _ _ _ q => q) q
/-- a op1 b op2 c -/
def mCh (f g : Sto → D → D → Option D) (ma mb mc : ME) : ME := bd ma fun x => bd mb fun y => bd (rd fun A => f A x y) fun k => match k with
  | .bl true => bd mc fun z => rd fun A => g A y z
  | .bl false => op (some (.bl false))
  | _ => op none
theorem tChain_of {r r' : R2} {f f' : Sto → D → D → Option D} (hf : Op2 X f r) (hf' : Op2 X f' r') {σ : L2.St} {H : Hp} {Q : VK} (q : tM X W (mCh f f' ma mb mc) σ H Q) : tChain r r' (tM X W ma) (tM X W mb) (tM X W mc) σ H Q := by
  obtain ⟨ρ, A, F, B, ι, g, ev, q⟩ := q
  refine ⟨ρ, A, F, B, ι, g, ev, q.bind.imp fun x A1 q1 B1 ι1 H1 v l1 g1 r1 => ⟨ρ, A1, F, B1, ι1, g1, ev.mono l1, ?_⟩⟩
  refine (q1.bind).mono l1 fun y A2 q2 B2 ι2 H2 u l2 g2 r2 => ?_
  obtain ⟨d, hd, q3⟩ := (Post.bind (X := X) (W := W) q2).rd
  refine hf g2 (r1.mono l2) r2 hd fun B3 ι3 H3 w l3 g3 r3 => ?_
  cases d with
  | bl k =>
    cases r3
    refine ⟨k, rfl, ?_⟩
    cases k with
    | true =>
      rw [if_pos rfl]
      have q4 := Post.bind (X := X) (W := W) (α := D) (β := D) q3
      refine ⟨ρ, A2, F, B3, ι3, g3, ev.mono ((l1.trans l2).trans l3), q4.mono ((l1.trans l2).trans l3) fun z A4 q5 B4 ι4 H4 w4 l4 g4 r4 => ?_⟩
      obtain ⟨d', hd', q6⟩ := q5.rd
      exact hf' g4 (r2.mono (l3.trans l4)) r4 hd' fun B5 ι5 H5 w5 l5 => q6 B5 ι5 H5 w5 ((((l1.trans l2).trans l3).trans l4).trans l5)
    | false =>
      rw [if_neg (by decide)]
      obtain ⟨d', hd', q4⟩ := Post.opt (X := X) (W := W) q3
      cases hd'
      exact q4 B3 ι3 H3 _ ((l1.trans l2).trans l3) g3 .bl
  | _ =>
    obtain ⟨d', hd', q4⟩ := Post.opt (X := X) (W := W) q3
    cases hd'
theorem se_chain {o o' : CmpOp} {r r' : R2} {f f' : Sto → D → D → Option D} (ho : OpR X (compareOp o) r) (ho' : OpR X (compareOp o') r') (hf : Op2 X f r) (hf' : Op2 X f' r') (ha : SE X W a ma) (hb : SE X W b mb) (hc : SE X W c mc)
    (hm : lastMarks [o, o'] [b, c] = false := by with_unfolding_all rfl) : SE X W (.Compare a [o, o'] [b, c] pos) (mCh f f' ma mb mc) :=
  (pe_chain ho ho' ha hb hc hm).to fun _ _ _ q => tChain_of hf hf' q
theorem st_chain {o o' : CmpOp} {r r' : R2} {f f' : Sto → D → D → Option D} (ho : OpR X (compareOp o) r) (ho' : OpR X (compareOp o') r') (hf : Op2 X f r) (hf' : Op2 X f' r') (ha : SE X W a ma) (hb : SE X W b mb) (hc : SE X W c mc)
    (hm : lastMarks [o, o'] [b, c] = false := by with_unfolding_all rfl) : ST X W (.Compare a [o, o'] [b, c] pos) (asB (mCh f f' ma mb mc)) :=
  (pt_chain ho ho' ha hb hc hm).to fun _ _ _ q => tTest_of (fun _ _ _ q => tChain_of hf hf' q) q

/-! ### and, or, not -/
variable {ta tb : MT} {rest : List Expr}
def mAndT (a b : MT) : MT := bd a fun k => match k with | true => b | false => op (some false)
def mOrT (a b : MT) : MT := bd a fun k => match k with | true => op (some true) | false => b
def mNotT (a : MT) : MT := bd a fun k => op (some (!k))
/-- tests whatever their whole is -/
def SW (X : Cx) (W : Wt) (e : Expr) (m : MT) : Prop := PW X e (tMT X W m)
theorem sw_one {o : BoolOp} (ha : ST X W a ta) (h : ∀ {t : TT}, PT X a t → PW X (.BoolOp o [a] pos) t) : SW X W (.BoolOp o [a] pos) ta := h ha
theorem PW.to' {t u : TT} (h : PW X e t) (k : ∀ σ H Q, u σ H Q → t σ H Q) : PW X e u := ⟨fun wh pins s σ H Q I q => h.run wh pins s σ H Q I (k σ H Q q)⟩
theorem sw_and1 (ha : ST X W a ta) : SW X W (.BoolOp .And [a] pos) ta := pw_and1 ha
theorem sw_or1 (ha : ST X W a ta) : SW X W (.BoolOp .Or [a] pos) ta := pw_or1 ha
theorem sw_and (ha : ST X W a ta) (hb : SW X W (.BoolOp .And (b :: rest) pos) tb) : SW X W (.BoolOp .And (a :: b :: rest) pos) (mAndT ta tb) := PW.to' (pw_and ha hb) fun σ H Q q => by
  obtain ⟨ρ, A, F, B, ι, g, ev, q⟩ := q
  refine ⟨ρ, A, F, B, ι, g, ev, q.bind.imp fun k A1 q1 B1 ι1 H1 l1 g1 => ?_⟩
  cases k with
  | true => rw [if_pos rfl]; exact ⟨ρ, A1, F, B1, ι1, g1, ev.mono l1, PostT.mono l1 q1⟩
  | false =>
    rw [if_neg (by decide)]
    obtain ⟨k, hk, q2⟩ := q1.opt
    cases hk
    exact q2 B1 ι1 H1 l1 g1
theorem sw_or (ha : ST X W a ta) (hb : SW X W (.BoolOp .Or (b :: rest) pos) tb) : SW X W (.BoolOp .Or (a :: b :: rest) pos) (mOrT ta tb) := PW.to' (pw_or ha hb) fun σ H Q q => by
  obtain ⟨ρ, A, F, B, ι, g, ev, q⟩ := q
  refine ⟨ρ, A, F, B, ι, g, ev, q.bind.imp fun k A1 q1 B1 ι1 H1 l1 g1 => ?_⟩
  cases k with
  | false => rw [if_neg (by decide)]; exact ⟨ρ, A1, F, B1, ι1, g1, ev.mono l1, PostT.mono l1 q1⟩
  | true =>
    rw [if_pos rfl]
    obtain ⟨k, hk, q2⟩ := q1.opt
    cases hk
    exact q2 B1 ι1 H1 l1 g1
theorem SW.st (h : SW X W e ta) : ST X W e ta := PW.pt h
theorem st_not (ha : ST X W a ta) : ST X W (.UnaryOp .Not a pos) (mNotT ta) := (pt_not ha).to fun σ H Q q => by
  obtain ⟨ρ, A, F, B, ι, g, ev, q⟩ := q
  refine ⟨ρ, A, F, B, ι, g, ev, q.bind.imp fun k A1 q1 B1 ι1 H1 l1 g1 => ?_⟩
  obtain ⟨k, hk, q2⟩ := q1.opt
  cases hk
  exact q2 B1 ι1 H1 l1 g1
/-- as values, of bools -/
def mAndV (a b : ME) : ME := bd a fun d => match d with | .bl true => b | .bl false => op (some (.bl false)) | _ => op none
def mOrV (a b : ME) : ME := bd a fun d => match d with | .bl true => op (some (.bl true)) | .bl false => b | _ => op none
theorem se_one {o : BoolOp} (ha : SE X W a ma) : SE X W (.BoolOp o [a] pos) ma := pe_one ha
theorem se_and (ha : SE X W a ma) (hb : SE X W (.BoolOp .And (b :: rest) pos) mb) : SE X W (.BoolOp .And (a :: b :: rest) pos) (mAndV ma mb) := (pe_and ha hb).to fun σ H Q q => by
  obtain ⟨ρ, A, F, B, ι, g, ev, q⟩ := q
  refine ⟨ρ, A, F, B, ι, g, ev, q.bind.imp fun d A1 q1 B1 ι1 H1 v l1 g1 r1 => ?_⟩
  cases d with
  | bl k =>
    cases r1
    refine ⟨k, rfl, ?_⟩
    cases k with
    | true => rw [if_pos rfl]; exact ⟨ρ, A1, F, B1, ι1, g1, ev.mono l1, PostE.mono l1 q1⟩
    | false =>
      rw [if_neg (by decide)]
      obtain ⟨k, hk, q2⟩ := Post.opt (X := X) (W := W) q1
      cases hk
      exact q2 B1 ι1 H1 _ l1 g1 .bl
  | _ =>
    obtain ⟨k, hk, q2⟩ := Post.opt (X := X) (W := W) q1
    cases hk
theorem se_or (ha : SE X W a ma) (hb : SE X W (.BoolOp .Or (b :: rest) pos) mb) : SE X W (.BoolOp .Or (a :: b :: rest) pos) (mOrV ma mb) := (pe_or ha hb).to fun σ H Q q => by
  obtain ⟨ρ, A, F, B, ι, g, ev, q⟩ := q
  refine ⟨ρ, A, F, B, ι, g, ev, q.bind.imp fun d A1 q1 B1 ι1 H1 v l1 g1 r1 => ?_⟩
  cases d with
  | bl k =>
    cases r1
    refine ⟨k, rfl, ?_⟩
    cases k with
    | false => rw [if_neg (by decide)]; exact ⟨ρ, A1, F, B1, ι1, g1, ev.mono l1, PostE.mono l1 q1⟩
    | true =>
      rw [if_pos rfl]
      obtain ⟨k, hk, q2⟩ := Post.opt (X := X) (W := W) q1
      cases hk
      exact q2 B1 ι1 H1 _ l1 g1 .bl
  | _ =>
    obtain ⟨k, hk, q2⟩ := Post.opt (X := X) (W := W) q1
    cases hk
def mNotV (a : ME) : ME := bd a fun d => op (match d with | .bl b => some (.bl (!b)) | _ => none)
theorem se_not (ha : SE X W a ma) : SE X W (.UnaryOp .Not a pos) (mNotV ma) := (pe_not ha).to fun σ H Q q => by
  obtain ⟨ρ, A, F, B, ι, g, ev, q⟩ := q
  refine ⟨ρ, A, F, B, ι, g, ev, q.bind.imp fun d A1 q1 B1 ι1 H1 v l1 g1 r1 => ?_⟩
  obtain ⟨k, hk, q2⟩ := q1.opt
  cases d <;> simp at hk
  subst hk
  cases r1
  exact ⟨_, rfl, q2 B1 ι1 H1 _ l1 g1 .bl⟩
def mIf (t : MT) (a b : ME) : ME := bd t fun k => match k with | true => a | false => b
theorem se_if (hc : ST X W c ta) (ha : SE X W a ma) (hb : SE X W b mb) : SE X W (.IfExp c a b pos) (mIf ta ma mb) := (pe_ifExp hc ha hb).to fun σ H Q q => by
  obtain ⟨ρ, A, F, B, ι, g, ev, q⟩ := q
  refine ⟨ρ, A, F, B, ι, g, ev, q.bind.imp fun k A1 q1 B1 ι1 H1 l1 g1 => ?_⟩
  cases k with
  | true => rw [if_pos rfl]; exact ⟨ρ, A1, F, B1, ι1, g1, ev.mono l1, PostE.mono l1 q1⟩
  | false => rw [if_neg (by decide)]; exact ⟨ρ, A1, F, B1, ι1, g1, ev.mono l1, PostE.mono l1 q1⟩

/-! ### argument lists, displays -/
variable {mr : MA}
def aNil : MA := fun _ A => .ok [] A
def aCons (m : ME) (r : MA) : MA := bd m fun d => bd r fun ds => op (some (d :: ds))
theorem sa_nil : SA X W [] aNil := pa_nil.to fun σ H Q ⟨ρ, A, F, B, ι, g, ev, q⟩ => q B ι H [] Le.refl g .nil
theorem sa_cons (ha : SE X W e ma) (hr : SA X W es mr) (hs : starEach (e :: es) X.env = (false, eval e X.env) :: starEach es X.env := by rfl) : SA X W (e :: es) (aCons ma mr) := (pa_cons ha hr hs).to fun σ H Q q => by
  obtain ⟨ρ, A, F, B, ι, g, ev, q⟩ := q
  refine ⟨ρ, A, F, B, ι, g, ev, q.bind.imp fun d A1 q1 B1 ι1 H1 v l1 g1 r1 => ⟨ρ, A1, F, B1, ι1, g1, ev.mono l1, q1.bind.mono l1 fun ds A2 q2 B2 ι2 H2 vs l2 g2 r2 => ?_⟩⟩
  obtain ⟨k, hk, q3⟩ := q2.opt
  cases hk
  exact q3 B2 ι2 H2 _ (l1.trans l2) g2 (.cons (r1.mono l2) r2)
def szOk (n : Nat) : Bool := decide (n ≤ 100000)
theorem szOk.le {n : Nat} (h : szOk n = true) : n ≤ sizeLine := sz_of (of_decide_eq_true h)
def mTup (m : MA) : ME := bd m fun ds => op (if szOk ds.length then some (.tup ds) else none)
theorem ite_some {α : Type} {c : Bool} {a b : α} (h : (if c = true then some a else none) = some b) : c = true ∧ a = b := by
  cases c with
  | true => rw [if_pos rfl] at h; exact ⟨rfl, Option.some.inj h⟩
  | false => rw [if_neg (by decide)] at h; cases h
theorem se_tup {x1} (h : SA X W es mr) : SE X W (.Tuple es x1 pos) (mTup mr) := (pe_tup h).to fun σ H Q q => by
  obtain ⟨ρ, A, F, B, ι, g, ev, q⟩ := q
  refine ⟨ρ, A, F, B, ι, g, ev, q.bind.imp fun ds A1 q1 B1 ι1 H1 vs l1 g1 r1 => ?_⟩
  obtain ⟨k, hk, q2⟩ := q1.opt
  obtain ⟨hz, rfl⟩ := ite_some hk
  refine ⟨by rw [r1.length]; exact (szOk.le hz), fun p hp => ?_⟩
  obtain ⟨g2, l2⟩ := g1.newB (o := .tup vs) hp
  exact q2 _ ι1 _ _ (l1.trans l2) g2 (.tup (st_of upd_same) (r1.mono l2))
/-- a fresh list -/
def mLs (m : MA) : MA := bd m fun ds => op (if szOk ds.length then some ds else none)
theorem sl_lst (h : SA X W es mr) : SL X W (.List es pos) (mLs mr) := (pe_lst h).to fun σ H Q q => by
  obtain ⟨ρ, A, F, B, ι, g, ev, q⟩ := q
  refine ⟨ρ, A, F, B, ι, g, ev, q.bind.imp fun ds A1 q1 B1 ι1 H1 vs l1 g1 r1 => ?_⟩
  obtain ⟨k, hk, q2⟩ := q1.opt
  obtain ⟨hz, rfl⟩ := ite_some hk
  refine ⟨by rw [r1.length]; exact (szOk.le hz), fun p hp => ?_⟩
  exact q2 B1 ι1 _ p vs l1 (g1.grow (Ex.new hp)) upd_same (fresh_back g1.ex hp) (fresh_back g1.fr hp) (g1.fresh hp) r1
/-- a fresh list as a value, as an object of the store -/
def frL (m : MA) : ME := bd m fun ds => op (some (.lst ds))
def nwL (m : MA) : ME := bd m fun ds => fun _ A => .ok (.ref A.length) (A ++ [.lst ds])
theorem se_frL (h : SL X W e mr) : SE X W e (frL mr) := h.to fun σ H Q q => by
  obtain ⟨ρ, A, F, B, ι, g, ev, q⟩ := q
  refine ⟨ρ, A, F, B, ι, g, ev, q.bind.imp fun ds A1 q1 B1 ι1 H1 p vs l1 g1 hp hB hF hι r1 => ?_⟩
  obtain ⟨k, hk, q2⟩ := q1.opt
  cases hk
  obtain ⟨g2, l2⟩ := g1.frz hp hB hF hι
  exact q2 _ ι1 _ _ (l1.trans l2) g2 (.lst (sq_of upd_same) (r1.mono l2))
theorem se_nwL (h : SL X W e mr) : SE X W e (nwL mr) := h.to fun σ H Q q => by
  obtain ⟨ρ, A, F, B, ι, g, ev, q⟩ := q
  refine ⟨ρ, A, F, B, ι, g, ev, q.bind.imp fun ds A1 q1 B1 ι1 H1 p vs l1 g1 hp hB hF hι r1 => ?_⟩
  have l2 : Le B1 ι1 B1 (ι1 ++ [p]) := ⟨Ex.refl B1, List.prefix_append _ _⟩
  obtain ⟨g2, _⟩ := g1.own (o := .lst ds) hB hF hι ⟨vs, hp, r1.mono l2⟩
  have q2 : ∀ B' ι' H' v, Le B ι B' ι' → Good X.K X.mg W.tb F B' ι' (A1 ++ [.lst ds]) H' → Rep X.K B' ι' (.ref A1.length) v → Q v H' := q1
  exact q2 B1 _ H1 _ (l1.trans l2) g2 (.ref (by rw [← g1.len]; simp))

/-! ### statements -/
variable {st : Stmt} {ss : List Stmt} {ms mt : MS}
def bS {α : Type} (m : Env → Sto → Rz α) (k : α → Env → Sto → RS) : MS := fun ρ A => match m ρ A with
  | .ok d A' => k d ρ A'
  | .exc c A' => .exc c ρ A'
  | .no => .no
theorem PostS.bind {α : Type} {m : Env → Sto → Rz α} {k : α → Env → Sto → RS} {ρ : Env} {σ : L2.St} {F B : Hp} {ι : List Addr} {A : Sto} {E : Ends} (ev : EnvOk X.K B ι ρ σ) (q : PostS X W F B ι (bS m k ρ A) E) : Post X W σ F B ι (m ρ A) fun a A' => PostS X W F B ι (k a ρ A') E := by
  unfold bS at q
  cases hm : m ρ A with
  | ok d A' => rw [hm] at q; exact q
  | exc c A' => rw [hm] at q; exact fun B' ι' H' l g => q B' ι' H' σ l g (ev.mono l)
  | no => rw [hm] at q; exact q
def sNil : MS := fun ρ A => .nx ρ A
def sSeq (m k : MS) : MS := fun ρ A => match m ρ A with
  | .nx ρ' A' => k ρ' A'
  | r => r
theorem sss_nil : SSs X W [] sNil := pss_nil.to fun D σ H ⟨ρ, A, F, B, ι, g, ev, q⟩ => q B ι H σ Le.refl g ev
theorem PostS.seq {m k : MS} {ρ : Env} {A : Sto} {F B : Hp} {ι : List Addr} {D : Ends} (q : PostS X W F B ι (sSeq m k ρ A) D) : PostS X W F B ι (m ρ A) { D with nx := tMS X W k D } := by
  unfold sSeq at q
  cases hm : m ρ A with
  | nx ρ' A' => rw [hm] at q; exact fun B' ι' H' σ' l g ev => ⟨ρ', A', F, B', ι', g, ev, PostS.mono l q⟩
  | rt d A' => rw [hm] at q; exact q
  | bk d A' => rw [hm] at q; exact q
  | ct d A' => rw [hm] at q; exact q
  | exc c ρ A' => rw [hm] at q; exact q
  | no => rw [hm] at q; exact q
theorem sss_cons (h1 : SS X W st ms) (h2 : SSs X W ss mt) : SSs X W (st :: ss) (sSeq ms mt) := (pss_cons h1 h2).to fun D σ H ⟨ρ, A, F, B, ι, g, ev, q⟩ => ⟨ρ, A, F, B, ι, g, ev, q.seq⟩
theorem sss_one (h1 : SS X W st ms) : SSs X W [st] ms := (pss_one h1).to fun D σ H q => q
def sRet (m : ME) : MS := bS m fun d => fun _ A => .rt d A
theorem ss_ret (h : SE X W e ma) : SS X W (.Return (some e) pos) (sRet ma) := (ps_ret h).to fun D σ H ⟨ρ, A, F, B, ι, g, ev, q⟩ => ⟨ρ, A, F, B, ι, g, ev, PostS.bind ev q⟩
def sRetN : MS := fun _ A => .rt .non A
theorem ss_retN : SS X W (.Return none pos) sRetN := ps_retN.to fun D σ H ⟨ρ, A, F, B, ι, g, ev, q⟩ => q B ι H _ Le.refl g .non
def sEx (m : ME) : MS := bS m fun _ => fun ρ A => .nx ρ A
theorem ss_expr (h : SE X W e ma) (hs : swapsWith e none pos.line X.env = pure false := by rfl) : SS X W (.Expr e pos) (sEx ma) := (ps_expr h hs).to fun D σ H ⟨ρ, A, F, B, ι, g, ev, q⟩ =>
  ⟨ρ, A, F, B, ι, g, ev, (PostS.bind ev q).imp fun d A1 q1 B1 ι1 H1 v l1 g1 _ => q1 B1 ι1 H1 σ l1 g1 (ev.mono l1)⟩
theorem ss_pass : SS X W (.Pass pos) sNil := ps_pass.to fun D σ H ⟨ρ, A, F, B, ι, g, ev, q⟩ => q B ι H σ Le.refl g ev
def sBrk : MS := fun ρ A => .bk ρ A
def sCnt : MS := fun ρ A => .ct ρ A
theorem ss_break : SS X W (.Break pos) sBrk := ps_break.to fun D σ H ⟨ρ, A, F, B, ι, g, ev, q⟩ => q B ι H σ Le.refl g ev
theorem ss_cont : SS X W (.Continue pos) sCnt := ps_continue.to fun D σ H ⟨ρ, A, F, B, ι, g, ev, q⟩ => q B ι H σ Le.refl g ev
def sIf (t : MT) (a b : MS) : MS := bS t fun k => match k with | true => a | false => b
theorem ss_if {sa sb : List Stmt} (hc : ST X W c ta) (ha : SSs X W sa ms) (hb : SSs X W sb mt) : SS X W (.If c sa sb pos) (sIf ta ms mt) := (ps_if hc ha hb).to fun D σ H ⟨ρ, A, F, B, ι, g, ev, q⟩ =>
  ⟨ρ, A, F, B, ι, g, ev, (PostS.bind ev q).imp fun k A1 q1 B1 ι1 H1 l1 g1 => by
    cases k with
    | true => rw [if_pos rfl]; exact ⟨ρ, A1, F, B1, ι1, g1, ev.mono l1, PostS.mono l1 q1⟩
    | false => rw [if_neg (by decide)]; exact ⟨ρ, A1, F, B1, ι1, g1, ev.mono l1, PostS.mono l1 q1⟩⟩
def sSet (i : Nat) (m : ME) : MS := bS m fun d => fun ρ A => .nx (ρ.set i (some d)) A
theorem ss_set {i : Nat} {x : Str} {pos' : Pos} (hN : X.N.Nodup) (hi : X.N[i]? = some x) (hx : Loc X.env.scope x) (he : SE X W e ma) (hs : swapsWith e (some (.Name x pos')) pos.line X.env = pure false := by rfl)
    (hf : X.fn x = true ∨ X.env.scope.names.lookup x = some .local := by first | exact .inl rfl | exact .inr rfl | assumption) : SS X W (.Assign [.Name x pos'] e pos) (sSet i ma) :=
  (ps_set hN hi hx he hs hf).to fun D σ H ⟨ρ, A, F, B, ι, g, ev, q⟩ => ⟨ρ, A, F, B, ι, g, ev, (PostS.bind ev q).imp fun d A1 q1 B1 ι1 H1 v l1 g1 r1 => q1 B1 ι1 H1 _ l1 g1 ((ev.mono l1).set i r1)⟩

/-! ### while -/
/-- at most n turns -/
def whl (t : MT) (b : MS) : Nat → MS
  | 0 => fun _ _ => .no
  | n + 1 => bS t fun k => match k with
    | false => fun ρ A => .nx ρ A
    | true => fun ρ A => match b ρ A with
      | .nx ρ' A' => whl t b n ρ' A'
      | .ct ρ' A' => whl t b n ρ' A'
      | .bk ρ' A' => .nx ρ' A'
      | r => r
def fuelW : Nat := 100000
theorem ss_while {body : List Stmt} {n : Nat} (hp : PassesOwn (model X.prog X.w) X.A X.env X.xe) (hc : ST X W c ta) (hb : SSs X W body ms) : SS X W (.While c body [] pos) (whl ta ms n) := (ps_while hp hc hb).to fun D σ H ⟨ρ, A, F, B, ι, g, ev, q⟩ => by
  refine ⟨fun m σ H => ∃ ρ A F B ι, Good X.K X.mg W.tb F B ι A H ∧ EnvOk X.K B ι ρ σ ∧ PostS X W F B ι (whl ta ms m ρ A) D, ⟨n, ρ, A, F, B, ι, g, ev, q⟩, fun m σ H ⟨ρ, A, F, B, ι, g, ev, q⟩ => ?_⟩
  cases m with
  | zero => exact q.elim
  | succ m =>
    refine ⟨ρ, A, F, B, ι, g, ev, (PostS.bind ev q).imp fun k A1 q1 B1 ι1 H1 l1 g1 => ?_⟩
    cases k with
    | false => rw [if_neg (by decide)]; exact q1 B1 ι1 H1 σ l1 g1 (ev.mono l1)
    | true =>
      rw [if_pos rfl]
      refine ⟨fun σ H => ∃ ρ A F B ι, Good X.K X.mg W.tb F B ι A H ∧ EnvOk X.K B ι ρ σ ∧ PostS X W F B ι (whl ta ms m ρ A) D, fun σ' H' z => ⟨m, Nat.lt_succ_self m, z⟩, ρ, A1, F, B1, ι1, g1, ev.mono l1, ?_⟩
      have q1 := PostS.mono l1 q1
      cases hm : ms ρ A1 with
      | nx ρ' A' => simp only [hm] at q1; exact fun B2 ι2 H2 σ2 l2 g2 e2 => ⟨ρ', A', F, B2, ι2, g2, e2, PostS.mono l2 q1⟩
      | ct ρ' A' => simp only [hm] at q1; exact fun B2 ι2 H2 σ2 l2 g2 e2 => ⟨ρ', A', F, B2, ι2, g2, e2, PostS.mono l2 q1⟩
      | bk ρ' A' => simp only [hm] at q1; exact q1
      | rt d A' => simp only [hm] at q1; exact q1
      | exc c ρ' A' => simp only [hm] at q1; exact q1
      | no => simp only [hm] at q1; exact q1
end
end Sm

set_option Elab.async false
set_option linter.all false
set_option autoImplicit false
set_option maxRecDepth 100000
set_option maxHeartbeats 1000000
/-! Sm3: what is walked, targets, for, comprehensions. -/
namespace Sm
open PySem L2 Evl
/-- a walk over the deep values ds -/
structure WalkD (X : Cx) (B : Hp) (ι : List Addr) (J : It) (ds : List D) : Prop where
  go : ∀ {tb F B' ι' A' H'} (i : Nat), Le B ι B' ι' → Good X.K X.mg tb F B' ι' A' H' → i < ds.length → J.go i H'
  stop : ∀ {tb F B' ι' A' H'} (i : Nat), Le B ι B' ι' → Good X.K X.mg tb F B' ι' A' H' → ds.length ≤ i → J.stop i H'
  yld : ∀ {tb F B' ι' A' H'} (i : Nat) (x : V) (H'' : Hp) (d : D), Le B ι B' ι' → Good X.K X.mg tb F B' ι' A' H' → ds[i]? = some d → J.yld i H' x H'' → ∃ B'', Le B' ι' B'' ι' ∧ Good X.K X.mg tb F B'' ι' A' H'' ∧ Rep X.K B'' ι' d x
theorem WalkD.mono {X : Cx} {B B' : Hp} {ι ι' : List Addr} {J : It} {ds : List D} (l : Le B ι B' ι') (w : WalkD X B ι J ds) : WalkD X B' ι' J ds :=
  ⟨fun i l' => w.go i (l.trans l'), fun i l' => w.stop i (l.trans l'), fun i x H'' d l' => w.yld i x H'' d (l.trans l')⟩
def tMI (X : Cx) (W : Wt) (m : MA) : TI := fun σ H R => ∃ ρ A F B ι, Good X.K X.mg W.tb F B ι A H ∧ EnvOk X.K B ι ρ σ ∧ Post X W σ F B ι (m ρ A) fun ds A' =>
  ∀ B' ι' H' J, Le B ι B' ι' → Good X.K X.mg W.tb F B' ι' A' H' → WalkD X B' ι' J ds → R J H'
def SI (X : Cx) (W : Wt) (tg iter : Expr) (m : MA) : Prop := PI X tg iter (tMI X W m)
theorem _root_.L2.PI.to {X : Cx} {tg iter : Expr} {t u : TI} (h : PI X tg iter t) (k : ∀ σ H R, u σ H R → t σ H R) : PI X tg iter u := ⟨fun pins s σ H R I q => h.run pins s σ H R I (k σ H R q)⟩
theorem _root_.L2.PG.to {X : Cx} {tg : Expr} {t u : TG} (h : PG X tg t) (k : ∀ v σ H Q, u v σ H Q → t v σ H Q) : PG X tg u := ⟨fun pins s σ H v w Q I r q => h.run pins s σ H v w Q I r (k v σ H Q q)⟩
theorem _root_.L2.PGs.to {X : Cx} {tg : List Expr} {t u : TGs} (h : PGs X tg t) (k : ∀ v σ H Q, u v σ H Q → t v σ H Q) : PGs X tg u := ⟨fun pins s σ H v w Q I r q => h.run pins s σ H v w Q I r (k v σ H Q q)⟩
/-- targets: mG stores in the slots vs alone -/
abbrev MG := D → Env → Option Env
abbrev MGs := List D → Env → Option Env
def Off (vs : List Nat) (σ σ' : L2.St) : Prop := σ'.length = σ.length ∧ ∀ j, j ∉ vs → σ'[j]? = σ[j]?
def tMG (X : Cx) (vs : List Nat) (m : MG) : TG := fun v σ H Q => ∃ tb d ρ A F B ι ρ', Good X.K X.mg tb F B ι A H ∧ EnvOk X.K B ι ρ σ ∧ Rep X.K B ι d v ∧ m d ρ = some ρ' ∧ ∀ σ', EnvOk X.K B ι ρ' σ' → Off vs σ σ' → Q σ' H
def tMGs (X : Cx) (vs : List Nat) (m : MGs) : TGs := fun v σ H Q => ∃ tb d ρ A F B ι ρ', Good X.K X.mg tb F B ι A H ∧ EnvOk X.K B ι ρ σ ∧ RepL X.K B ι d v ∧ m d ρ = some ρ' ∧ ∀ σ', EnvOk X.K B ι ρ' σ' → Off vs σ σ' → Q σ' H
def SG (X : Cx) (vs : List Nat) (tg : Expr) (m : MG) : Prop := PG X tg (tMG X vs m)
def SGs (X : Cx) (vs : List Nat) (tg : List Expr) (m : MGs) : Prop := PGs X tg (tMGs X vs m)
theorem Off.refl (vs : List Nat) (σ : L2.St) : Off vs σ σ := ⟨rfl, fun _ _ => rfl⟩
theorem Off.trans {vs ws : List Nat} {σ σ' σ'' : L2.St} (a : Off vs σ σ') (b : Off ws σ' σ'') : Off (vs ++ ws) σ σ'' := ⟨b.1.trans a.1, fun j h => by
  rw [List.mem_append] at h
  rw [b.2 j fun z => h (.inr z), a.2 j fun z => h (.inl z)]⟩
section
variable {X : Cx} {W : Wt} {a b c e tg iter elt : Expr} {es : List Expr} {pos : Pos} {ma mb mc me : ME} {mi : MA} {mt : MT}
def gN (i : Nat) : MG := fun d ρ => some (ρ.set i (some d))
theorem sg_name {i : Nat} {x : Str} (hN : X.N.Nodup) (hi : X.N[i]? = some x) (hx : Loc X.env.scope x) (hf : X.fn x = true ∨ X.env.scope.names.lookup x = some .local := by first | exact .inl rfl | exact .inr rfl | assumption) : SG X [i] (.Name x pos) (gN i) :=
  (pg_name hN hi hx hf).to fun v σ H Q ⟨tb, d, ρ, A, F, B, ι, ρ', g, ev, r, hm, q⟩ => by
    cases hm
    refine q _ (ev.set i r) ⟨by simp, fun j hj => ?_⟩
    rw [List.getElem?_set_ne (by intro z; exact hj (by simp [z]))]
def gsNil : MGs := fun ds ρ => match ds with | [] => some ρ | _ => none
def gsCons (g : MG) (r : MGs) : MGs := fun ds ρ => match ds with | d :: ds => (g d ρ).bind (r ds) | [] => none
theorem sgs_nil : SGs X [] [] gsNil := pgs_nil.to fun v σ H Q ⟨tb, d, ρ, A, F, B, ι, ρ', g, ev, r, hm, q⟩ => by
  cases r with
  | nil => cases hm; exact ⟨rfl, q σ ev (Off.refl _ _)⟩
  | cons => cases hm
theorem sgs_cons {vs ws : List Nat} {g : MG} {r : MGs} (h1 : SG X vs e g) (h2 : SGs X ws es r) (hs : (assignEach (e :: es) X.env).map (·.2) = assign e X.env :: (assignEach es X.env).map (·.2) := by rfl) : SGs X (vs ++ ws) (e :: es) (gsCons g r) :=
  (pgs_cons h1 h2 hs).to fun v σ H Q ⟨tb, d, ρ, A, F, B, ι, ρ', gd, ev, rp, hm, q⟩ => by
    cases rp with
    | nil => cases hm
    | @cons d' v' ds' vs' h rr =>
      unfold gsCons at hm
      simp only at hm
      cases hg : g d' ρ with
      | none => rw [hg] at hm; cases hm
      | some ρ1 =>
        rw [hg] at hm
        exact ⟨v', vs', rfl, tb, d', ρ, A, F, B, ι, ρ1, gd, ev, h, hg, fun σ1 e1 o1 => ⟨tb, ds', ρ1, A, F, B, ι, ρ', gd, e1, rr, hm, fun σ2 e2 o2 => q σ2 e2 (o1.trans o2)⟩⟩
def gT (n : Nat) (r : MGs) : MG := fun d ρ => match d with | .tup ds => if ds.length = n then r ds ρ else none | _ => none
theorem sg_tup {vs : List Nat} {k n : Nat} {r : MGs} (hc : X.calm = true) (h : SGs X vs es r) (hn : (assignEach es X.env).length = n := by rfl) (hst : (assignEach es X.env).findIdx? (·.1) = none := by rfl) : SG X vs (.Tuple es k pos) (gT n r) :=
  (pg_tup hc h hn hst).to fun v σ H Q ⟨tb, d, ρ, A, F, B, ι, ρ', gd, ev, rp, hm, q⟩ => by
    unfold gT at hm
    cases d with
    | tup ds =>
      cases rp with
      | @tup _ a vs' hv rl =>
        simp only at hm
        by_cases hl : ds.length = n
        · rw [if_pos hl] at hm
          exact ⟨a, vs', rfl, ex_t gd.ex hv, by rw [rl.length]; exact hl, tb, ds, ρ, A, F, B, ι, ρ', gd, ev, rl, hm, q⟩
        · rw [if_neg hl] at hm; cases hm
    | _ => cases hm
/-- target = value -/
def sAsg (m : ME) (g : MG) : MS := bS m fun d => fun ρ A => match g d ρ with | some ρ' => .nx ρ' A | none => .no
theorem ss_asg {vs : List Nat} {g : MG} (he : SE X W e me) (hg : SG X vs tg g) (hs : swapsWithSole [tg] e pos.line X.env = pure false := by rfl) (hw : swappedStores [tg] e X.env = pure none := by rfl)
    (h1 : (assignEach [tg] X.env).map (·.2) = [assign tg X.env] := by rfl) : SS X W (.Assign [tg] e pos) (sAsg me g) := (ps_asg he hg hs hw h1).to fun D σ H ⟨ρ, A, F, B, ι, gd, ev, q⟩ =>
  ⟨ρ, A, F, B, ι, gd, ev, (PostS.bind ev q).imp fun d A1 q1 B1 ι1 H1 v l1 g1 r1 => by
    cases hg : g d ρ with
    | none => simp only [hg] at q1; exact q1.elim
    | some ρ' => simp only [hg] at q1; exact ⟨W.tb, d, ρ, A1, F, B1, ι1, ρ', g1, ev.mono l1, r1, hg, fun σ' e' _ => q1 B1 ι1 H1 σ' l1 g1 e'⟩⟩
/-! ### for -/
def forL (g : MG) (b : MS) : List D → MS
  | [] => sNil
  | d :: ds => fun ρ A => match g d ρ with
    | none => .no
    | some ρ1 => match b ρ1 A with
      | .nx ρ' A' => forL g b ds ρ' A'
      | .ct ρ' A' => forL g b ds ρ' A'
      | .bk ρ' A' => .nx ρ' A'
      | r => r
def sFor (m : MA) (g : MG) (b : MS) : MS := bS m fun ds => forL g b ds
theorem drop_nil {α : Type} {l : List α} {i : Nat} (h : l.drop i = []) : l.length ≤ i := List.drop_eq_nil_iff.mp h
theorem drop_cons {α : Type} {l r : List α} {i : Nat} {x : α} (h : l.drop i = x :: r) : i < l.length ∧ l[i]? = some x ∧ l.drop (i + 1) = r := by
  have hi : i < l.length := by
    rcases Nat.lt_or_ge i l.length with z | z
    · exact z
    · rw [List.drop_eq_nil_iff.mpr z] at h; cases h
  rw [List.drop_eq_getElem_cons hi] at h
  injection h with h1 h2
  exact ⟨hi, by rw [List.getElem?_eq_getElem hi, h1], h2⟩
theorem ss_for {vs : List Nat} {g : MG} {body : List Stmt} {b : MS} (hp : PassesOwn (model X.prog X.w) X.A X.env X.xe) (hc : X.calm = true) (hi : SI X W tg iter mi) (hg : SG X vs tg g) (hb : SSs X W body b)
    (hs : ∀ x, foldedSetIterable iter X.env x = pure x := by intro _; rfl) : SS X W (.For tg iter body [] pos) (sFor mi g b) := (ps_for hp hc hi hg hb hs).to fun D σ H ⟨ρ, A, F, B, ι, gd, ev, q⟩ =>
  ⟨ρ, A, F, B, ι, gd, ev, (PostS.bind ev q).imp fun ds A1 q1 B1 ι1 H1 J l1 g1 wk => by
    refine ⟨fun i m σ H => m = ds.length - i ∧ ∃ ρ A B' ι', Le B1 ι1 B' ι' ∧ Good X.K X.mg W.tb F B' ι' A H ∧ EnvOk X.K B' ι' ρ σ ∧ PostS X W F B' ι' (forL g b (ds.drop i) ρ A) D, ⟨ds.length, rfl, ρ, A1, B1, ι1, Le.refl, g1, ev.mono l1, PostS.mono l1 q1⟩, ?_⟩
    rintro i m σ H ⟨rfl, ρ, A, B', ι', l', gd', ev', q'⟩
    cases hd : ds.drop i with
    | nil =>
      rw [hd] at q'
      exact .inl ⟨wk.stop i l' gd' (drop_nil hd), q' B' ι' H σ Le.refl gd' ev'⟩
    | cons d r =>
      obtain ⟨hlt, hx, hr⟩ := drop_cons hd
      rw [hd] at q'
      refine .inr ⟨wk.go i l' gd' hlt, fun σ H => ∃ ρ A B' ι', Le B1 ι1 B' ι' ∧ Good X.K X.mg W.tb F B' ι' A H ∧ EnvOk X.K B' ι' ρ σ ∧ PostS X W F B' ι' (forL g b (ds.drop (i + 1)) ρ A) D, fun σ' H' z => ⟨ds.length - (i + 1), by omega, rfl, z⟩, fun x H2 hy => ?_⟩
      obtain ⟨B2, l2, g2, r2⟩ := wk.yld i x H2 d l' gd' hx hy
      unfold forL at q'
      cases hgd : g d ρ with
      | none => simp only [hgd] at q'; exact q'.elim
      | some ρ1 =>
        simp only [hgd] at q'
        refine ⟨W.tb, d, ρ, A, F, B2, ι', ρ1, g2, ev'.mono l2, r2, hgd, fun σ3 e3 _ => ⟨ρ1, A, F, B2, ι', g2, e3, ?_⟩⟩
        have q' := PostS.mono l2 q'
        cases hm : b ρ1 A with
        | nx ρ' A' => simp only [hm] at q'; exact fun B4 ι4 H4 σ4 l4 g4 e4 => ⟨ρ', A', B4, ι4, (l'.trans l2).trans l4, g4, e4, by rw [hr]; exact PostS.mono l4 q'⟩
        | ct ρ' A' => simp only [hm] at q'; exact fun B4 ι4 H4 σ4 l4 g4 e4 => ⟨ρ', A', B4, ι4, (l'.trans l2).trans l4, g4, e4, by rw [hr]; exact PostS.mono l4 q'⟩
        | bk ρ' A' => simp only [hm] at q'; exact q'
        | rt d A' => simp only [hm] at q'; exact q'
        | exc c ρ' A' => simp only [hm] at q'; exact q'
        | no => simp only [hm] at q'; exact q'⟩

/-! ### comprehensions -/
def wipeD (ρ : Env) : List Nat → Env
  | [] => ρ
  | v :: vs => (wipeD ρ vs).set v none
theorem EnvOk.none {K : PySem.W.Frag} {B : Hp} {ι : List Addr} {ρ : Env} {σ : L2.St} (e : EnvOk K B ι ρ σ) (i : Nat) : EnvOk K B ι (ρ.set i none) (σ.set i none) := by
  refine ⟨by simp [e.1], fun j d h => ?_⟩
  by_cases hj : j = i
  · subst hj
    by_cases hl : j < ρ.length
    · rw [List.getElem?_set_self hl] at h; cases h
    · rw [List.getElem?_eq_none (by simpa using hl)] at h; cases h
  · rw [List.getElem?_set_ne (Ne.symm hj)] at h
    obtain ⟨w, h1, h2⟩ := e.2 j d h
    exact ⟨w, by rw [List.getElem?_set_ne (Ne.symm hj)]; exact h1, h2⟩
theorem EnvOk.wipe {K : PySem.W.Frag} {B : Hp} {ι : List Addr} {ρ : Env} {σ : L2.St} (e : EnvOk K B ι ρ σ) : ∀ vs : List Nat, EnvOk K B ι (wipeD ρ vs) (L2.wipe σ vs)
  | [] => e
  | v :: vs => (EnvOk.wipe e vs).none v
theorem wipe_at {σ : L2.St} : ∀ {vs : List Nat} {j : Nat}, (L2.wipe σ vs)[j]? = if j ∈ vs ∧ j < σ.length then some none else σ[j]?
  | [], j => by simp [L2.wipe]
  | v :: vs, j => by
    unfold L2.wipe
    by_cases hj : j = v
    · subst hj
      by_cases hl : j < σ.length
      · rw [List.getElem?_set_self (by rw [wipe_length]; exact hl), if_pos ⟨by simp, hl⟩]
      · rw [List.getElem?_eq_none (by rw [List.length_set, wipe_length]; omega), if_neg (by intro z; exact hl z.2), List.getElem?_eq_none (by omega)]
    · rw [List.getElem?_set_ne (Ne.symm hj), wipe_at (vs := vs)]
      simp [hj]
theorem wipe_off {σ σ' : L2.St} {vs ws : List Nat} (h : Off ws (L2.wipe σ vs) σ') (hs : ∀ j ∈ ws, j ∈ vs) : L2.wipe σ' vs = L2.wipe σ vs := by
  refine List.ext_getElem? fun j => ?_
  have hl : σ'.length = σ.length := by rw [h.1, wipe_length]
  rw [wipe_at, wipe_at, hl]
  by_cases hj : j ∈ vs ∧ j < σ.length
  · rw [if_pos hj, if_pos hj]
  · rw [if_neg hj, if_neg hj]
    by_cases hv : j ∈ vs
    · have : σ.length ≤ j := by
        rcases Nat.lt_or_ge j σ.length with z | z
        · exact (hj ⟨hv, z⟩).elim
        · exact z
      rw [List.getElem?_eq_none (by omega), List.getElem?_eq_none this]
    · rw [h.2 j fun z => hv (hs j z), wipe_at, if_neg (by intro z; exact hv z.1)]
/-- the items that a comprehension makes -/
def lcL (g : MG) (t : MT) (m : ME) : List D → MA
  | [] => fun _ A => .ok [] A
  | d :: ds => fun ρ A => match g d ρ with
    | none => .no
    | some ρ1 => match t ρ1 A with
      | .ok false A1 => lcL g t m ds ρ A1
      | .ok true A1 => match m ρ1 A1 with
        | .ok y A2 => match lcL g t m ds ρ A2 with
          | .ok ys A3 => .ok (y :: ys) A3
          | _ => .no
        | _ => .no
      | _ => .no
def mLc (vs : List Nat) (mi : MA) (g : MG) (t : MT) (m : ME) : MA := bd mi fun ds => fun ρ A => match lcL g t m ds (wipeD ρ vs) A with
  | .ok ys A' => if szOk ds.length then .ok ys A' else .no
  | _ => .no
def yesT : MT := fun _ A => .ok true A
abbrev Wt.off (W : Wt) : Wt := ⟨fun _ _ _ _ => False, W.tb⟩
def SP1 (X : Cx) (W : Wt) (ifs : List Expr) (m : MT) : Prop := PTs X ifs (tMT X W m)
theorem sp_nil : SP1 X W [] yesT := ⟨fun pins s σ H Q I h => pts_nil.run pins s σ H Q I (by
  obtain ⟨ρ, A, F, B, ι, gd, ev, q⟩ := h
  exact q B ι H Le.refl gd)⟩
theorem sp_one {t : MT} (h : ST X W c t) : SP1 X W [c] t := pts_one h
theorem lcL_len {g : MG} {t : MT} {m : ME} : ∀ {ds : List D} {ρ : Env} {A A' : Sto} {ys : List D}, lcL g t m ds ρ A = .ok ys A' → ys.length ≤ ds.length
  | [], ρ, A, A', ys, h => by
    unfold lcL at h
    injection h with h1 _
    subst h1
    exact Nat.le_refl _
  | d :: ds, ρ, A, A', ys, h => by
    unfold lcL at h
    cases hg : g d ρ with
    | none => simp only [hg] at h; cases h
    | some ρ1 =>
      simp only [hg] at h
      cases ht : t ρ1 A with
      | ok k A1 =>
        simp only [ht] at h
        cases k with
        | false => exact Nat.le_succ_of_le (lcL_len h)
        | true =>
          simp only at h
          cases hm : m ρ1 A1 with
          | ok y A2 =>
            simp only [hm] at h
            cases hr : lcL g t m ds ρ A2 with
            | ok ys' A3 =>
              simp only [hr] at h
              injection h with h1 _
              subst h1
              exact Nat.succ_le_succ (lcL_len hr)
            | exc c A3 => simp only [hr] at h; cases h
            | no => simp only [hr] at h; cases h
          | exc c A2 => simp only [hm] at h; cases h
          | no => simp only [hm] at h; cases h
      | exc c A1 => simp only [ht] at h; cases h
      | no => simp only [ht] at h; cases h
/-- the frame with a list under way at D -/
theorem Good.under {K : PySem.W.Frag} {mg : Str → Option Value} {tb : Tb} {F B H : Hp} {ι : List Addr} {A : Sto} {D : Addr} {us : List V} (g : Good K mg tb F B ι A H) (hH : H D = some (.lst us)) (hB : B D = none) (hl : ∀ (n : Nat) (u : AO), ι[n]? = some D → A[n]? = some u → u.live = true → False) :
    Good K mg tb (upd F D (.lst us)) B ι A H :=
  ⟨g.ex, fun a o e => by
    by_cases ha : a = D
    · subst ha; rw [upd_same] at e; rw [hH]; exact e
    · rw [upd_ne ha] at e; exact g.fr a o e, fun a o e => by
    by_cases ha : a = D
    · subst ha; rw [upd_same] at e; cases e; exact ⟨_, rfl⟩
    · rw [upd_ne ha] at e; exact g.fl a o e, fun a o e => by
    by_cases ha : a = D
    · subst ha; exact hB
    · rw [upd_ne ha] at e; exact g.dis a o e, g.len, g.obj, fun n a o h1 h2 h3 => ⟨(g.free n a o h1 h2 h3).1, by
      rw [upd_ne fun z => hl n o (by rw [← z]; exact h1) h2 h3]
      exact (g.free n a o h1 h2 h3).2⟩, g.inj⟩
theorem Good.off {K : PySem.W.Frag} {mg : Str → Option Value} {tb : Tb} {F B H : Hp} {ι : List Addr} {A : Sto} {D : Addr} {us : List V} (hF : F D = none) (g : Good K mg tb (upd F D (.lst us)) B ι A H) :
    Good K mg tb F B ι A H ∧ H D = some (.lst us) ∧ B D = none ∧ (∀ (n : Nat) (u : AO), ι[n]? = some D → A[n]? = some u → u.live = true → False) :=
  ⟨⟨g.ex, fun a o e => g.fr a o (by rw [upd_ne (ne_of_none e hF)]; exact e), fun a o e => g.fl a o (by rw [upd_ne (ne_of_none e hF)]; exact e), fun a o e => g.dis a o (by rw [upd_ne (ne_of_none e hF)]; exact e), g.len, g.obj, fun n a o h1 h2 h3 => ⟨(g.free n a o h1 h2 h3).1, by
    have := (g.free n a o h1 h2 h3).2
    by_cases ha : a = D
    · subst ha; exact hF
    · rw [upd_ne ha] at this; exact this⟩, g.inj⟩, g.fr D _ upd_same, g.dis D _ upd_same, fun n u h1 h2 h3 => by
    have := (g.free n D u h1 h2 h3).2
    rw [upd_same] at this; cases this⟩
/-- an object in no one's hands changes -/
theorem Good.mut {K : PySem.W.Frag} {mg : Str → Option Value} {tb : Tb} {F B H : Hp} {ι : List Addr} {A : Sto} {D : Addr} {o : HO} (g : Good K mg tb F B ι A H) (hF : F D = none) (hB : B D = none) (hl : ∀ (n : Nat) (u : AO), ι[n]? = some D → A[n]? = some u → u.live = true → False) :
    Good K mg tb F B ι A (upd H D o) :=
  ⟨Ex.mut g.ex hB, Ex.mut g.fr hF, g.fl, g.dis, g.len, fun n a u h1 h2 => by
    cases hu : u.live with
    | false => cases u with
      | dead => trivial
      | lst _ => cases hu
      | dct _ => cases hu
      | ins _ _ => cases hu
      | tabG _ => cases hu
      | tabL _ _ => cases hu
      | lam _ => cases hu
    | true =>
      refine (g.obj n a u h1 h2).mono Le.refl fun w q => ?_
      rw [upd_ne fun z => hl n u (by rw [← z]; exact h1) h2 hu]
      exact q, g.free, g.inj⟩
theorem tLc_of {vs ws : List Nat} {g : MG} {t : MT} (hsub : ∀ j ∈ ws, j ∈ vs) {σ : L2.St} {H : Hp} {Q : VK} (q : tML X W (mLc vs mi g t me) σ H Q) : tLc (tMI X W mi) (tMG X ws g) (tMT X W.off t) (tM X W.off me) vs σ H Q := by
  obtain ⟨ρ, A, F, B, ι, gd, ev, q⟩ := q
  refine ⟨ρ, A, F, B, ι, gd, ev, q.bind.imp fun ds A1 q1 B1 ι1 H1 J l1 g1 wk D hD => ?_⟩
  cases hlc : lcL g t me ds (wipeD ρ vs) A1 with
  | exc c A2 => simp only [hlc] at q1; exact q1.elim
  | no => simp only [hlc] at q1; exact q1.elim
  | ok ys AF =>
    simp only [hlc] at q1
    cases hz : szOk ds.length with
    | false => rw [hz, if_neg (by decide)] at q1; exact q1.elim
    | true =>
    rw [hz, if_pos rfl] at q1
    have q1 : ∀ B' ι' H' p us, Le B ι B' ι' → Good X.K X.mg W.tb F B' ι' AF H' → H' p = some (.lst us) → B' p = none → F p = none → (∀ (n : Nat) (u : AO), ι'[n]? = some p → AF[n]? = some u → u.live = true → False) → RepL X.K B' ι' ys us → Q (.ref p) H' := q1
    have hB := fresh_back g1.ex hD
    have hF := fresh_back g1.fr hD
    have hzz : ds.length ≤ 100000 := of_decide_eq_true hz
    let Wv : Nat → Hp → Prop := fun i H => i ≤ ds.length ∧ ∃ A B' ι' acc us zs, Le B1 ι1 B' ι' ∧ Good X.K X.mg W.tb (upd F D (.lst us)) B' ι' A H ∧ RepL X.K B' ι' acc us ∧ acc.length ≤ i ∧ lcL g t me (ds.drop i) (wipeD ρ vs) A = .ok zs AF ∧ ys = acc ++ zs
    refine ⟨fun i m H => m = ds.length - i ∧ Wv i H, ⟨ds.length, rfl, Nat.zero_le _, A1, B1, ι1, [], [], ys, Le.refl, (g1.grow (Ex.new hD)).under upd_same hB (g1.fresh hD), .nil, Nat.le_refl _, hlc, rfl⟩, ?_⟩
    rintro i m H ⟨rfl, hi, A, B', ι', acc, us, zs, l', gu, ra, hal, hl, hy⟩
    obtain ⟨g', hHD, hBD, hlive⟩ := gu.off hF
    cases hd : ds.drop i with
    | nil =>
      rw [hd] at hl
      unfold lcL at hl
      injection hl with e1 e2
      subst e1 e2
      rw [List.append_nil] at hy
      subst hy
      exact .inl ⟨wk.stop i l' g' (drop_nil hd), q1 B' ι' H D us (l1.trans l') g' hHD hBD hF hlive ra⟩
    | cons d r =>
      obtain ⟨hlt, hx, hr⟩ := drop_cons hd
      rw [hd] at hl
      refine .inr ⟨wk.go i l' g' hlt, fun H => Wv (i + 1) H, fun H' z => ⟨ds.length - (i + 1), by omega, rfl, z⟩, fun x H2 hyl => ?_⟩
      obtain ⟨B2, l2, g2, r2⟩ := wk.yld i x H2 d l' gu hx hyl
      unfold lcL at hl
      cases hgd : g d (wipeD ρ vs) with
      | none => simp only [hgd] at hl; cases hl
      | some ρ1 =>
        simp only [hgd] at hl
        have ev' := ((ev.mono l1).mono l').wipe vs
        refine ⟨W.tb, d, _, A, _, B2, ι', ρ1, g2, ev'.mono l2, r2, hgd, fun σ3 e3 o3 => ⟨wipe_off o3 hsub, ρ1, A, _, B2, ι', g2, e3, ?_⟩⟩
        cases ht : t ρ1 A with
        | exc c A2 => simp only [ht] at hl; cases hl
        | no => simp only [ht] at hl; cases hl
        | ok k A2 =>
          simp only [ht] at hl
          intro B3 ι3 H3 l3 g3
          cases k with
          | false =>
            rw [if_neg (by decide)]
            simp only at hl
            exact ⟨hlt, A2, B3, ι3, acc, us, zs, (l'.trans l2).trans l3, g3, ra.mono (l2.trans l3), Nat.le_succ_of_le hal, by rw [hr]; exact hl, hy⟩
          | true =>
            rw [if_pos rfl]
            simp only at hl
            refine ⟨ρ1, A2, _, B3, ι3, g3, e3.mono l3, ?_⟩
            cases hm : me ρ1 A2 with
            | exc c A3 => simp only [hm] at hl; cases hl
            | no => simp only [hm] at hl; cases hl
            | ok y A3 =>
              simp only [hm] at hl
              cases hrec : lcL g t me r (wipeD ρ vs) A3 with
              | exc c A4 => simp only [hrec] at hl; cases hl
              | no => simp only [hrec] at hl; cases hl
              | ok zs' A4 =>
                simp only [hrec] at hl
                injection hl with e1 e2
                subst e1 e2
                intro B4 ι4 H4 w l4 g4 r4
                obtain ⟨g4', hHD4, hBD4, hlive4⟩ := g4.off hF
                have la : us.length = acc.length := ra.length
                refine ⟨us, hHD4, sz_lt (by omega), hlt, A3, B4, ι4, acc ++ [y], us ++ [w], zs', ((l'.trans l2).trans l3).trans l4, ?_, (ra.mono ((l2.trans l3).trans l4)).append (.cons r4 .nil), by simp; exact hal, by rw [hr]; exact hrec, by simp [hy]⟩
                exact (g4'.mut hF hBD4 hlive4).under upd_same hBD4 hlive4
/-- [elt for tg in iter if ..] -/
theorem sl_lc {vs ws : List Nat} {g : MG} {t : MT} {ifs : List Expr} {scope : Scope} {own : List (Str × Nat)} (hc : X.calm = true) (hN : X.N.Nodup) (hi : SI X W tg iter mi) (ok : BlkOk X.N X.env.scope scope own)
    (hg : ∀ (s : Shared) (H : Hp) (C : Addr) (cl : List (Str × Addr)) (fp : List Addr), SG (X.blk s H scope (compEnvC scope cl C X.env) fp) ws tg g) (ht : ∀ (s : Shared) (H : Hp) (C : Addr) (cl : List (Str × Addr)) (fp : List Addr), SP1 (X.blk s H scope (compEnvC scope cl C X.env) fp) W.off ifs t)
    (he : ∀ (s : Shared) (H : Hp) (C : Addr) (cl : List (Str × Addr)) (fp : List Addr), SE (X.blk s H scope (compEnvC scope cl C X.env) fp) W.off elt me) (hv : own.map (·.2) = vs := by rfl) (hsub : ∀ j ∈ ws, j ∈ vs := by decide) (hs : ∀ x, foldedSetIterable iter X.env x = pure x := by intro _; rfl) :
    SL X W (.ListComp elt [⟨tg, iter, ifs, 0⟩] scope pos) (mLc vs mi g t me) := by
  subst hv
  exact (pe_lc (g := tMG X ws g) (tt := tMT X W.off t) (te := tM X W.off me) hc hN hi ok hg ht he hs).to fun σ H Q q => tLc_of hsub q
/-- name = [..] on one line, the name a local -/
theorem ss_setLc {vs ws : List Nat} {g : MG} {t : MT} {ifs : List Expr} {scope : Scope} {own : List (Str × Nat)} {i : Nat} {y : Str} {py spos : Pos} (hc : X.calm = true) (hN : X.N.Nodup) (hy : X.N[i]? = some y) (hyl : X.env.scope.names.lookup y = some .local)
    (hsw : swapsWith (.ListComp elt [⟨tg, iter, ifs, 0⟩] scope pos) (some (.Name y py)) spos.line X.env = pure true) (hi : SI X W tg iter mi) (ok : BlkOk X.N X.env.scope scope own)
    (hg : ∀ (s : Shared) (H : Hp) (C : Addr) (cl : List (Str × Addr)) (fp : List Addr), SG (X.blk s H scope (compEnvC scope cl C X.env) fp) ws tg g) (ht : ∀ (s : Shared) (H : Hp) (C : Addr) (cl : List (Str × Addr)) (fp : List Addr), SP1 (X.blk s H scope (compEnvC scope cl C X.env) fp) W.off ifs t)
    (he : ∀ (s : Shared) (H : Hp) (C : Addr) (cl : List (Str × Addr)) (fp : List Addr), SE (X.blk s H scope (compEnvC scope cl C X.env) fp) W.off elt me) (hv : own.map (·.2) = vs := by rfl) (hsub : ∀ j ∈ ws, j ∈ vs := by decide) (hs : ∀ x, foldedSetIterable iter X.env x = pure x := by intro _; rfl) :
    PS X (.Assign [.Name y py] (.ListComp elt [⟨tg, iter, ifs, 0⟩] scope pos) spos) (tAsg (tML X W (mLc vs mi g t me)) (gName i)) := by
  subst hv
  exact (ps_setLc (g := tMG X ws g) (tt := tMT X W.off t) (te := tM X W.off me) hc hN hy hyl hsw hi ok hg ht he hs).to fun D σ H q => tLc_of hsub q
end
end Sm

set_option Elab.async false
set_option linter.all false
set_option autoImplicit false
set_option maxRecDepth 100000
set_option maxHeartbeats 1000000
/-! Sm4: defs, calls, classes, fields. -/
namespace Sm
open PySem L2 Evl
abbrev FM := List D → Sto → Rz D
section
variable (K : PySem.W.Frag) (mg : Str → Option Value) (tb : Tb)
/-- what a def's mirror promises -/
def PostF (F B : Hp) (ι : List Addr) (r : Rz D) (Q : VK) (E : XK) : Prop := match r with
  | .ok d A' => ∀ B' ι' H' v, Le B ι B' ι' → Good K mg tb F B' ι' A' H' → Rep K B' ι' d v → Q v H'
  | .exc c A' => ∀ B' ι' H', Le B ι B' ι' → Good K mg tb F B' ι' A' H' → ∀ u, mg c = some u → E u none H'
  | .no => False
def spM (n : Nat) (f : FM) : Sp := fun vs H Q E => ∃ ds A F B ι, ds.length = n ∧ Good K mg tb F B ι A H ∧ RepL K B ι ds vs ∧ PostF K mg tb F B ι (f ds A) Q E
end
theorem spM.len {K : PySem.W.Frag} {mg : Str → Option Value} {tb : Tb} {n : Nat} {f : FM} {vs : List V} {H : Hp} {Q : VK} {E : XK} (h : spM K mg tb n f vs H Q E) : vs.length = n := by
  obtain ⟨ds, A, F, B, ι, hl, g, r, _⟩ := h
  rw [r.length, hl]
/-- at a stands a def whose mirror is f -/
def FD (X : Cx) (tb : Tb) (n : Nat) (f : FM) (a : Addr) : Prop := ∃ (fd : FuncData) (ps : List Str) (k : Nat), FnOk X.prog X.w X.K X.mg X.base (L2.CX X.prog X.w) k a fd ps (spM X.K X.mg tb n f) ∧ Room k X.A ∧ Binds X.K fd ps [] ∧ PySem.W.keepIn X.K (.ref a) = true
section
variable {X : Cx} {W : Wt} {e o : Expr} {es : List Expr} {pos p apos : Pos} {ma mb : ME} {mr : MA} {f : FM} {n : Nat} {a : Addr} {x m : Str}
theorem run_fd {pins : List (Addr × Obj)} {σ : L2.St} {H : Hp} {s : Shared} {Q : VK} {us : List Value} {vs : List V} (h : FD X W.tb n f a) (tk : Takes X W.w) (I : Inv X pins σ H s) (r : Vals vs us) (q : spM X.K X.mg W.tb n f vs H Q (WE W.w σ)) :
    wpAny (model X.prog X.w) X.A (call (.ref a) us) (EP X pins σ Q) X.xe s := by
  obtain ⟨fd, ps, k, F, hr, hb, hk⟩ := h
  exact run_fnS (E := WE W.w) F hr hb (passAt tk σ) I r q
def mCall (f : FM) (m : MA) : ME := bd m fun ds => fun _ A => f ds A
theorem Post.call {σ : L2.St} {F B : Hp} {ι : List Addr} {r : Rz D} {Q : VK} (h : PostE X W σ F B ι r Q) : PostF X.K X.mg W.tb F B ι r Q (WE W.w σ) := by
  cases r with
  | ok d A => exact h
  | exc c A => exact h
  | no => exact h
theorem se_call (h : FD X W.tb n f a) (tk : Takes X W.w) (hg : Gl X x) (hm : X.mg x = some (.ref a)) (ha : SA X W (e :: es) mr) (hn : (e :: es).length = n) (hlen : ∀ ρ A ds A', mr ρ A = .ok ds A' → ds.length = (e :: es).length)
    (hdb : (x == ("__debug__" : Str)) = false := by decide) (he : starEach (e :: es) X.env = (false, eval e X.env) :: starEach es X.env := by rfl) (hpl : (backTo pos (starEach es X.env)).any (·.1) = false := by rfl) :
    SE X W (.Call (.Name x p) (e :: es) [] pos) (mCall f mr) := by
  obtain ⟨fd, ps, k, F, hr, hb, hk⟩ := h
  refine (pe_callS (E := WE W.w) F hr hg hm hk hb (passAt tk) ha hdb he hpl).to fun σ H Q q => ?_
  obtain ⟨ρ, A, F, B, ι, g, ev, q⟩ := q
  have q := q.bind
  refine ⟨ρ, A, F, B, ι, g, ev, ?_⟩
  cases hmr : mr ρ A with
  | exc c A1 => rw [hmr] at q; exact q
  | no => rw [hmr] at q; exact q.elim
  | ok ds A1 =>
    rw [hmr] at q
    exact fun B1 ι1 H1 vs l1 g1 r1 => ⟨ds, A1, F, B1, ι1, by rw [hlen _ _ _ _ hmr, hn], g1, r1, Post.call (PostE.mono l1 q)⟩
/-- argument lists keep their number -/
theorem aCons_len {r : MA} {k : Nat} (h : ∀ ρ A ds A', r ρ A = .ok ds A' → ds.length = k) {mh : ME} : ∀ ρ A ds A', aCons mh r ρ A = .ok ds A' → ds.length = k + 1 := by
  intro ρ A ds A' e
  unfold aCons bd at e
  cases hm : mh ρ A with
  | exc c A1 => simp only [hm] at e; cases e
  | no => simp only [hm] at e; cases e
  | ok d A1 =>
    simp only [hm] at e
    cases hr : r ρ A1 with
    | exc c A2 => simp only [hr] at e; cases e
    | no => simp only [hr] at e; cases e
    | ok ds' A2 =>
      simp only [hr, op] at e
      injection e with e1 _
      subst e1
      simp [h _ _ _ _ hr]
theorem aNil_len : ∀ ρ A ds A', aNil ρ A = .ok ds A' → ds.length = 0 := by
  intro ρ A ds A' e
  unfold aNil at e
  injection e with e1 _
  subst e1
  rfl

/-! ### fields -/
def fldD (A : Sto) (d : D) (f : Str) : Option D := match d with
  | .ref n => match A[n]? with
    | some (.ins _ fs) => fs.lookup f
    | _ => none
  | _ => none
def mFld (m : ME) (f : Str) : ME := bd m fun d => rd fun A => fldD A d f
/-- the classes that a text has: each is plain, and has no method of the names of its fields -/
def Plain (X : Cx) (fs : List Str) : Prop := ∀ (c : Str) (C : Addr), X.mg c = some (.ref C) → c ∈ fs → Cls X.K C
theorem zip_lookup {K : PySem.W.Frag} {B : Hp} {ι : List Addr} {f : Str} : ∀ {fs : List (Str × D)} {vs : List V} {d : D}, RepL K B ι (fs.map (·.2)) vs → fs.lookup f = some d → ∃ v, ((fs.map (·.1)).zip vs).lookup f = some v ∧ Rep K B ι d v
  | [], _, _, _, h => by cases h
  | (g, d0) :: fs, vs, d, r, h => by
    cases r with
    | @cons _ v0 _ vs' h0 r =>
      rw [List.lookup_cons] at h
      rw [List.map_cons, List.zip_cons_cons, List.lookup_cons]
      cases hg : f == g with
      | true => rw [hg] at h; simp only at h ⊢; cases h; exact ⟨v0, rfl, h0⟩
      | false => rw [hg] at h; simp only at h ⊢; exact zip_lookup r h
theorem zip_none {f : Str} : ∀ {fs : List (Str × D)} {vs : List V}, fs.lookup f = none → ((fs.map (·.1)).zip vs).lookup f = none
  | [], _, _ => rfl
  | (g, d0) :: fs, [], h => rfl
  | (g, d0) :: fs, v0 :: vs, h => by
    rw [List.lookup_cons] at h
    rw [List.map_cons, List.zip_cons_cons, List.lookup_cons]
    cases hg : f == g with
    | true => rw [hg] at h; cases h
    | false => rw [hg] at h; simp only at h ⊢; exact zip_none h
/-- an own object's facts: its class is one of the text's -/
def ClsOk (X : Cx) (cs : List Str) (f : Str) : Prop := ∀ c ∈ cs, ∀ C, X.mg c = some (.ref C) → Cls X.K C ∧ NoAttr X.K C f
def mFldC (cs : List Str) (m : ME) (f : Str) : ME := bd m fun d => rd fun A => match d with
  | .ref n => match A[n]? with
    | some (.ins c fs) => if cs.contains c then fs.lookup f else none
    | _ => none
  | _ => none
theorem se_fld {cs : List Str} (hc : ClsOk X cs x) (he : SE X W e ma) (hb : attributeBase e x X.env (eval e X.env) = eval e X.env := by rfl) : SE X W (.Attribute e x pos) (mFldC cs ma x) := (pe_fld he hb).to fun σ H Q q => by
  obtain ⟨ρ, A, F, B, ι, g, ev, q⟩ := q
  refine ⟨ρ, A, F, B, ι, g, ev, q.bind.imp fun d A1 q1 B1 ι1 H1 v l1 g1 r1 => ?_⟩
  obtain ⟨d', hd, q2⟩ := q1.rd
  cases d with
  | ref n =>
    cases r1 with
    | @ref _ a hi =>
    cases hA : A1[n]? with
    | none => simp only [hA] at hd; cases hd
    | some o =>
      cases o with
      | ins c fs =>
        simp only [hA] at hd
        cases hcs : cs.contains c with
        | false => rw [hcs, if_neg (by decide)] at hd; cases hd
        | true =>
          rw [hcs, if_pos rfl] at hd
          obtain ⟨C, dx, vs, hC, hH, rr⟩ := g1.obj n a _ hi hA
          obtain ⟨v', hv, rv⟩ := zip_lookup rr hd
          obtain ⟨k1, k2⟩ := hc c (by simpa using hcs) C hC
          exact ⟨a, C, dx, _, v', rfl, hH, k1, k2, hv, q2 B1 ι1 H1 v' l1 g1 rv⟩
      | _ => simp only [hA] at hd; cases hd
  | _ => cases hd
def putD (f : Str) (d : D) : List (Str × D) → List (Str × D)
  | [] => [(f, d)]
  | (g, u) :: fs => if g = f then (f, d) :: fs else (g, u) :: putD f d fs
end
end Sm

set_option Elab.async false
set_option linter.all false
set_option autoImplicit false
set_option maxRecDepth 100000
set_option maxHeartbeats 1000000
/-! Sm5: a def's promise out of its body; methods, instances, raise. -/
namespace Sm
open PySem L2 Evl PyProof.Rows
/-! ### what a def leaves behind: its own objects are dropped -/
mutual
def closed (n : Nat) : D → Bool
  | .ref k => decide (k < n)
  | .tup xs => closedL n xs
  | .lst xs => closedL n xs
  | .dct kvs => closedK n kvs
  | .clo _ xs => closedL n xs
  | _ => true
def closedL (n : Nat) : List D → Bool
  | [] => true
  | d :: ds => closed n d && closedL n ds
def closedK (n : Nat) : List (D × D) → Bool
  | [] => true
  | (k, d) :: ds => closed n k && closed n d && closedK n ds
end
def closedO (n : Nat) : AO → Bool
  | .dead => true
  | .lst xs => closedL n xs
  | .dct kvs => closedK n kvs
  | .ins _ fs => closedL n (fs.map (·.2))
  | _ => true
section
variable {K : PySem.W.Frag} {mg : Str → Option Value} {tb : Tb} {F B H : Hp} {ι : List Addr} {A : Sto} {n : Nat}
mutual
theorem Rep.cut : ∀ {d : D} {v : V}, closed n d = true → Rep K B ι d v → Rep K B (ι.take n) d v
  | _, _, _, .non => .non
  | _, _, _, .bl => .bl
  | _, _, _, .int => .int
  | _, _, _, .str => .str
  | _, _, c, .tup h r => .tup h (RepL.cut (by simpa [closed] using c) r)
  | _, _, c, .lst h r => .lst h (RepL.cut (by simpa [closed] using c) r)
  | _, _, c, .dctK h r => .dctK h (RepK.cut (by simpa [closed] using c) r)
  | .ref k, _, c, .ref h => .ref (by
    have c' : k < n := by simpa [closed] using c
    rw [List.getElem?_take, if_pos c']
    exact h)
theorem RepL.cut : ∀ {ds : List D} {vs : List V}, closedL n ds = true → RepL K B ι ds vs → RepL K B (ι.take n) ds vs
  | _, _, _, .nil => .nil
  | _, _, c, .cons h r => by
    simp only [closedL, Bool.and_eq_true] at c
    exact .cons (Rep.cut c.1 h) (RepL.cut c.2 r)
theorem RepK.cut : ∀ {ds : List (D × D)} {vs : List (Key × V)}, closedK n ds = true → RepK K B ι ds vs → RepK K B (ι.take n) ds vs
  | _, _, _, .nil => .nil
  | _, _, c, .cons h r => by
    simp only [closedK, Bool.and_eq_true] at c
    exact .cons (Rep.cut c.1.2 h) (RepK.cut c.2 r)
end
theorem Good.cut (g : Good K mg tb F B ι A H) (c : (A.take n).all (closedO n) = true) : Good K mg tb F B (ι.take n) (A.take n) H := by
  have at1 : ∀ {k : Nat} {a : Addr}, (ι.take n)[k]? = some a → k < n ∧ ι[k]? = some a := fun {k a} h => by
    rw [List.getElem?_take] at h
    by_cases hk : k < n
    · rw [if_pos hk] at h; exact ⟨hk, h⟩
    · rw [if_neg hk] at h; cases h
  have at2 : ∀ {k : Nat} {o : AO}, (A.take n)[k]? = some o → A[k]? = some o ∧ closedO n o = true := fun {k o} h => by
    have hm := List.all_eq_true.mp c o (List.mem_of_getElem? h)
    rw [List.getElem?_take] at h
    by_cases hk : k < n
    · rw [if_pos hk] at h; exact ⟨h, hm⟩
    · rw [if_neg hk] at h; cases h
  refine ⟨g.ex, g.fr, g.fl, g.dis, by simp [g.len], fun k a o h1 h2 => ?_, fun k a o h1 h2 => g.free k a o (at1 h1).2 (at2 h2).1, fun k j a o u h1 h2 h3 h4 => g.inj k j a o u (at1 h1).2 (at1 h2).2 (at2 h3).1 (at2 h4).1⟩
  have x := g.obj k a o (at1 h1).2 (at2 h2).1
  have hc := (at2 h2).2
  cases o with
  | dead => trivial
  | lst ds => obtain ⟨vs, e, r⟩ := x; exact ⟨vs, e, r.cut hc⟩
  | dct ds => obtain ⟨vs, e, r⟩ := x; exact ⟨vs, e, r.cut hc⟩
  | ins cl fs => obtain ⟨C, dx, vs, e0, e, r⟩ := x; exact ⟨C, dx, vs, e0, e, r.cut hc⟩
  | tabG k => exact x
  | tabL k q => exact x
  | lam i => exact x
end
def trimA (n : Nat) (A : Sto) : Sto := if A.length ≤ n then A else if (A.take n).all (closedO n) then A.take n else A
/-- fz: a list made here is handed out as a value -/
def frzD (fz : Bool) (n : Nat) (d : D) (A : Sto) : D := if fz then (match d with
  | .ref k => if k < n then d else match A[k]? with
    | some (.lst ds) => .lst ds
    | _ => d
  | _ => d) else d
def killD (fz : Bool) (n : Nat) (d : D) (A : Sto) : Sto := if fz then (match d with
  | .ref k => if k < n then A else match A[k]? with
    | some (.lst _) => A.set k .dead
    | _ => A
  | _ => A) else A
def trim2 (n : Nat) (d : D) (A : Sto) : Sto := if closed n d then trimA n A else A
def fin (fz : Bool) (n : Nat) (r : RS) : Rz D := match r with
  | .nx _ A => .ok .non (trimA n A)
  | .rt d A => .ok (frzD fz n d A) (trim2 n (frzD fz n d A) (killD fz n d A))
  | .exc c _ A => .exc c (trimA n A)
  | _ => .no
def envD (N : Nat) (ds : List D) : Env := ds.map some ++ List.replicate (N - ds.length) none
/-- the mirror of a def whose body's mirror is m; N: how many names it has -/
def fmOf (fz : Bool) (N : Nat) (m : MS) : FM := fun ds A => fin fz A.length (m (envD N ds) A)
section
variable {K : PySem.W.Frag} {mg : Str → Option Value} {tb : Tb} {F B H : Hp} {ι : List Addr} {A : Sto} {n : Nat}
theorem pre_take {ι ι' : List Addr} (h : ι <+: ι') : ι'.take ι.length = ι := by
  obtain ⟨t, e⟩ := h
  rw [← e]; simp
theorem Good.trim {A' : Sto} {B' H' : Hp} {ι' : List Addr} (l : Le B ι B' ι') (hn : ι.length = n) (g : Good K mg tb F B' ι' A' H') : ∃ ι2, Le B ι B' ι2 ∧ ι2 <+: ι' ∧ Good K mg tb F B' ι2 (trimA n A') H' ∧ ∀ d v, closed n d = true → Rep K B' ι' d v → Rep K B' ι2 d v := by
  unfold trimA
  split
  · exact ⟨ι', l, List.prefix_refl _, g, fun _ _ _ r => r⟩
  · split
    · rename_i h
      refine ⟨ι'.take n, ⟨l.ex, ?_⟩, List.take_prefix _ _, g.cut h, fun d v c r => r.cut c⟩
      subst hn
      rw [pre_take l.pre]
      exact List.prefix_refl _
    · exact ⟨ι', l, List.prefix_refl _, g, fun _ _ _ r => r⟩
theorem Good.kill {k : Nat} (g : Good K mg tb F B ι A H) : Good K mg tb F B ι (A.set k .dead) H := by
  have at2 : ∀ {j : Nat} {o : AO}, (A.set k .dead)[j]? = some o → o.live = true → A[j]? = some o := fun {j o} h hl => by
    by_cases hj : j = k
    · subst hj
      by_cases hlt : j < A.length
      · rw [List.getElem?_set_self hlt] at h; cases h; cases hl
      · rw [List.getElem?_eq_none (by simpa using hlt)] at h; cases h
    · rw [List.getElem?_set_ne (Ne.symm hj)] at h; exact h
  refine ⟨g.ex, g.fr, g.fl, g.dis, by simp [g.len], fun j a o h1 h2 => ?_, fun j a o h1 h2 h3 => g.free j a o h1 (at2 h2 h3) h3, fun j i a o u h1 h2 h3 h4 h5 h6 => g.inj j i a o u h1 h2 (at2 h3 h5) (at2 h4 h6) h5 h6⟩
  cases hl : o.live with
  | true => exact g.obj j a o h1 (at2 h2 hl)
  | false => cases o with
    | dead => trivial
    | lst _ => cases hl
    | dct _ => cases hl
    | ins _ _ => cases hl
    | tabG _ => cases hl
    | tabL _ _ => cases hl
    | lam _ => cases hl
theorem Good.handed {fz : Bool} {d : D} {v : V} (hn : n ≤ ι.length) (g : Good K mg tb F B ι A H) (r : Rep K B ι d v) : ∃ B2, Le B ι B2 ι ∧ Good K mg tb F B2 ι (killD fz n d A) H ∧ Rep K B2 ι (frzD fz n d A) v := by
  have no : ∀ {d' : D} {A' : Sto}, d' = d → A' = A → ∃ B2, Le B ι B2 ι ∧ Good K mg tb F B2 ι A' H ∧ Rep K B2 ι d' v := fun {d' A'} e1 e2 => by
    subst e1 e2
    exact ⟨B, Le.refl, g, r⟩
  cases fz with
  | false => exact no rfl rfl
  | true =>
    unfold killD frzD
    simp only [if_true]
    cases r with
    | @ref k a hk =>
      simp only
      by_cases hkn : k < n
      · rw [if_pos hkn, if_pos hkn]; exact ⟨B, Le.refl, g, .ref hk⟩
      · rw [if_neg hkn, if_neg hkn]
        cases hA : A[k]? with
        | none => simp only; exact ⟨B, Le.refl, g, .ref hk⟩
        | some o =>
          cases o with
          | lst ds =>
            simp only
            obtain ⟨us, e, rl⟩ := g.obj k a _ hk hA
            obtain ⟨hB, hF⟩ := g.free k a _ hk hA rfl
            obtain ⟨g2, l2⟩ := (g.kill (k := k)).frz e hB hF fun j u h1 h2 h3 => by
              by_cases hj : j = k
              · subst hj
                rw [List.getElem?_set_self (List.getElem?_eq_some_iff.mp hA).1] at h2
                cases h2; cases h3
              · have h2' := h2
                rw [List.getElem?_set_ne (Ne.symm hj)] at h2'
                exact hj (g.inj j k a u _ h1 hk h2' hA h3 rfl)
            exact ⟨_, l2, g2, .lst (sq_of upd_same) (rl.mono l2)⟩
          | _ => simp only; exact ⟨B, Le.refl, g, .ref hk⟩
    | non => exact ⟨B, Le.refl, g, .non⟩
    | bl => exact ⟨B, Le.refl, g, .bl⟩
    | int => exact ⟨B, Le.refl, g, .int⟩
    | str => exact ⟨B, Le.refl, g, .str⟩
    | tup h r => exact ⟨B, Le.refl, g, .tup h r⟩
    | lst h r => exact ⟨B, Le.refl, g, .lst h r⟩
    | dctK h r => exact ⟨B, Le.refl, g, .dctK h r⟩
end
theorem EnvOk.start {K : PySem.W.Frag} {B : Hp} {ι : List Addr} {ds : List D} {vs : List V} {N : List Str} (r : RepL K B ι ds vs) : EnvOk K B ι (envD N.length ds) (L2.start N vs) := by
  have hl := r.length
  refine ⟨by simp [envD, L2.start, hl], fun i d h => ?_⟩
  unfold envD at h
  unfold L2.start
  by_cases hi : i < ds.length
  · rw [List.getElem?_append_left (by simpa using hi)] at h
    rw [List.getElem?_map] at h
    cases hd : ds[i]? with
    | none => rw [hd] at h; cases h
    | some d' =>
      rw [hd] at h
      have e : d' = d := Option.some.inj (Option.some.inj h)
      subst e
      obtain ⟨v, h1, h2⟩ := r.get hd
      exact ⟨v, by rw [List.getElem?_append_left (by simp [hl]; exact hi), List.getElem?_map, h1]; rfl, h2⟩
  · rw [List.getElem?_append_right (by simpa using hi)] at h
    have := List.mem_of_getElem? h
    have := List.eq_of_mem_replicate this
    cases this
section
variable {P : Program} {w : World} {K : PySem.W.Frag} {mg : Str → Option Value} {tb : Tb} {base : Heap}
/-- a def's promise by its body's mirror -/
theorem fd_of {x qual : Str} {st : Stmt} {f : Addr} {fd : FuncData} {N ps : List Str} {k : Nat} {fz : Bool} {m : MS} (Fu : Fun K x qual st f fd) (S : FnScope N ps (defScope st))
    (hb : ∀ (cdv : Value) (hcode : fd.code = cdv) (A : Around) (outer : List PySem.Env) (s : Shared) (H : Hp) (E : XK), Room k (cxOf (L2.CX P w) P w K mg base N qual (defScope st) f cdv A outer s H E).A →
      Takes (cxOf (L2.CX P w) P w K mg base N qual (defScope st) f cdv A outer s H E) (fun cls d _ H => E cls d H) →
      PassesOwn (model P w) (cxOf (L2.CX P w) P w K mg base N qual (defScope st) f cdv A outer s H E).A (cxOf (L2.CX P w) P w K mg base N qual (defScope st) f cdv A outer s H E).env (cxOf (L2.CX P w) P w K mg base N qual (defScope st) f cdv A outer s H E).xe →
      SSs (cxOf (L2.CX P w) P w K mg base N qual (defScope st) f cdv A outer s H E) ⟨fun cls d _ H => E cls d H, tb⟩ (defBody st) m) :
    FnOk P w K mg base (L2.CX P w) (k + 1) f fd ps (spM K mg tb ps.length (fmOf fz N.length m)) := by
  obtain ⟨oc, od, kV, doc, pm, an, cdv, ct, osl, rfl, lk, hcd⟩ := Fu.ex
  refine fn_of lk hcd S (fun vs H Q E q => q.len) fun A outer s H vs Q E hr hsp => ?_
  have T := takes_of (X := cxOf (L2.CX P w) P w K mg base N qual (defScope st) f cdv A outer s H E) (E := E) rfl rfl rfl rfl
  refine ⟨_, hb cdv rfl A outer s H E hr T (passes_of (X := cxOf (L2.CX P w) P w K mg base N qual (defScope st) f cdv A outer s H E) rfl), ?_⟩
  obtain ⟨ds, A0, F, B, ι, hlen, g, r, q⟩ := hsp
  refine ⟨envD N.length ds, A0, F, B, ι, g, EnvOk.start r, ?_⟩
  unfold fmOf at q
  cases hm : m (envD N.length ds) A0 with
  | nx ρ A1 =>
    rw [hm] at q
    intro B1 ι1 H1 σ1 l1 g1 _
    obtain ⟨ι2, l2, _, g2, _⟩ := g1.trim l1 g.len
    exact q B1 ι2 H1 .non l2 g2 .non
  | rt d A1 =>
    rw [hm] at q
    intro B1 ι1 H1 v l1 g1 r1
    obtain ⟨B2, l2, g2, r2⟩ := g1.handed (fz := fz) (n := A0.length) (by rw [← g.len]; exact l1.pre.length_le) r1
    have q : ∀ B' ι' H' v, Le B ι B' ι' → Good K mg tb F B' ι' (trim2 A0.length (frzD fz A0.length d A1) (killD fz A0.length d A1)) H' → Rep K B' ι' (frzD fz A0.length d A1) v → Q v H' := q
    unfold trim2 at q
    cases hc : closed A0.length (frzD fz A0.length d A1) with
    | true =>
      rw [hc, if_pos rfl] at q
      obtain ⟨ι3, l3, _, g3, cut⟩ := g2.trim (l1.trans l2) g.len
      exact q B2 ι3 H1 v l3 g3 (cut _ _ hc r2)
    | false =>
      rw [hc, if_neg (by decide)] at q
      exact q B2 ι1 H1 v (l1.trans l2) g2 r2
  | exc c ρ A1 =>
    rw [hm] at q
    intro B1 ι1 H1 σ1 l1 g1 _ u hu
    obtain ⟨ι2, l2, _, g2, _⟩ := g1.trim l1 g.len
    exact q B1 ι2 H1 l2 g2 u hu
  | bk ρ A1 => rw [hm] at q; exact q.elim
  | ct ρ A1 => rw [hm] at q; exact q.elim
  | no => rw [hm] at q; exact q.elim
end
end Sm

set_option Elab.async false
set_option linter.all false
set_option autoImplicit false
set_option maxRecDepth 100000
set_option maxHeartbeats 1000000
/-! Sm6: methods, instances, stores to fields, raise, try. -/
namespace Sm
open PySem L2 Evl
/-- class c has a method m of mirror f -/
def MD (X : Cx) (tb : Tb) (c m : Str) (n : Nat) (f : FM) : Prop := ∃ (C a : Addr), X.mg c = some (.ref C) ∧ Cls X.K C ∧ Meth X.K C m a ∧ FD X tb n f a
def methOf (sel : List (Str × FM)) (m : Str) (A : Sto) (d : D) : Option FM := match d with
  | .ref n => match A[n]? with
    | some (.ins c fs) => if (fs.lookup m).isNone then sel.lookup c else none
    | _ => none
  | _ => none
def mMeth (sel : List (Str × FM)) (m : Str) (mo : ME) (mr : MA) : ME := bd mo fun d => bd (rd fun A => methOf sel m A d) fun f => bd mr fun ds => fun _ A => f (d :: ds) A
section
variable {X : Cx} {W : Wt} {e o : Expr} {es : List Expr} {pos p apos : Pos} {ma mb mo : ME} {mr : MA} {f : FM} {n : Nat} {a : Addr} {x m : Str} {sel : List (Str × FM)}
theorem methOf_at {A : Sto} {d : D} (h : methOf sel m A d = some f) : ∃ n c fs, d = .ref n ∧ A[n]? = some (.ins c fs) ∧ fs.lookup m = none ∧ sel.lookup c = some f := by
  unfold methOf at h
  cases d with
  | ref n =>
    simp only at h
    cases hA : A[n]? with
    | none => rw [hA] at h; cases h
    | some u =>
      rw [hA] at h
      cases u with
      | ins c fs =>
        simp only at h
        cases hl : fs.lookup m with
        | none => simp only [hl, Option.isNone_none, if_true] at h; exact ⟨n, c, fs, rfl, hA, hl, h⟩
        | some z => simp [hl] at h
      | _ => cases h
  | _ => cases h
/-- behind the object: its class's method is known -/
def MidM (X : Cx) (W : Wt) (m : Str) (n : Nat) (mr : MA) (σ : L2.St) (Q : VK) (v : V) (H1 : Hp) : Prop := ∃ (d : D) (f : FM) (ρ : Env) (A1 : Sto) (F B1 : Hp) (ι1 : List Addr) (a C dx ma : Addr) (fs : List (Str × V)),
  Good X.K X.mg W.tb F B1 ι1 A1 H1 ∧ EnvOk X.K B1 ι1 ρ σ ∧ Rep X.K B1 ι1 d v ∧ v = .ref a ∧ H1 a = some (.ins C dx fs) ∧ fs.lookup m = none ∧ Cls X.K C ∧ Meth X.K C m ma ∧ FD X W.tb n f ma ∧
  PostE X W σ F B1 ι1 (bd mr (fun ds => fun _ A => f (d :: ds) A) ρ A1) Q
theorem meth_mid (hM : ∀ c f, sel.lookup c = some f → MD X W.tb c m n f) {σ : L2.St} {H : Hp} {Q : VK} (q : tM X W (mMeth sel m mo mr) σ H Q) : tM X W mo σ H (MidM X W m n mr σ Q) := by
  obtain ⟨ρ, A, F, B, ι, g, ev, q⟩ := q
  refine ⟨ρ, A, F, B, ι, g, ev, q.bind.imp fun d A1 q1 B1 ι1 H1 v l1 g1 r1 => ?_⟩
  obtain ⟨f, hf, q2⟩ := (Post.bind (X := X) (W := W) (α := FM) (β := D) q1).rd
  obtain ⟨k, c, fs, rfl, hA, hl, hs⟩ := methOf_at hf
  obtain ⟨C, ma, hC, hcl, hme, hfd⟩ := hM c f hs
  cases r1 with
  | @ref _ a hi =>
    obtain ⟨C', dx, vs, hC', hH, rr⟩ := g1.obj k a _ hi hA
    rw [hC] at hC'
    cases hC'
    exact ⟨.ref k, f, ρ, A1, F, B1, ι1, a, C, dx, ma, _, g1, ev.mono l1, .ref hi, rfl, hH, zip_none hl, hcl, hme, hfd, PostE.mono l1 q2⟩
theorem mid_go {σ : L2.St} {F B : Hp} {ι : List Addr} {d : D} {ρ : Env} {A : Sto} {Q : VK} (q : PostE X W σ F B ι (bd mr (fun ds => fun _ A => f (d :: ds) A) ρ A) Q) {k : Nat} (hlen : ∀ ρ A ds A', mr ρ A = .ok ds A' → ds.length = k) (hn : k + 1 = n)
    {v : V} (r : Rep X.K B ι d v) : PostA X W σ F B ι (mr ρ A) fun vs H2 => spM X.K X.mg W.tb n f (v :: vs) H2 Q (WE W.w σ) := by
  have q := q.bind
  cases hmr : mr ρ A with
  | exc c A1 => rw [hmr] at q; exact q
  | no => rw [hmr] at q; exact q.elim
  | ok ds A1 =>
    rw [hmr] at q
    exact fun B1 ι1 H1 vs l1 g1 r1 => ⟨d :: ds, A1, F, B1, ι1, by rw [List.length_cons, hlen _ _ _ _ hmr, hn], g1, .cons (r.mono l1) r1, Post.call (PostE.mono l1 q)⟩
theorem se_meth {pl : Sem Bool} (hM : ∀ c f, sel.lookup c = some f → MD X W.tb c m n f) (tk : Takes X W.w) (ho : SE X W o mo) (ha : SA X W (e :: es) mr) (hlen : ∀ ρ A ds A', mr ρ A = .ok ds A' → ds.length = (e :: es).length) (hn : (e :: es).length + 1 = n)
    (hst : starEach (e :: es) X.env = (false, eval e X.env) :: starEach es X.env := by rfl) (hpl : (backTo pos (starEach es X.env)).any (·.1) = false := by rfl)
    (ht : eval (.Call (.Attribute o m apos) (e :: es) [] pos) X.env = (eval o X.env >>= fun ov => standAt apos.atName >>= fun _ => holding [ov] (getMethod ov m pl) >>= fun z => callWith pos z.1 z.2 (backTo pos (starEach (e :: es) X.env)) (backToKw pos (keywordEach [] X.env))) := by rfl) :
    SE X W (.Call (.Attribute o m apos) (e :: es) [] pos) (mMeth sel m mo mr) := by
  refine ⟨fun pins s0 σ0 H0 Q0 I0 q0 => PySem.W.methodCall_KW (pl := pl) (thn (ho.run pins s0 σ0 H0 _ I0 (meth_mid hM q0)) fun u s1 z => ?_) ht⟩
  obtain ⟨v, H1, I1, rv, d, f, ρ, A1, F, B1, ι1, a, C, dx, mad, fs, g1, ev, r1, rfl, hH, hl, hcl, hme, hfd, q⟩ := z
  obtain rfl : u = Value.ref a := rv
  refine getmeth_ok I1 hH hcl hme hl (PySem.W.callWith_K (first := [.ref a]) (h₀ := X.base) I1.ok.mod.kin hme.kp ?_ hst hpl)
  refine thn (ha.run pos pins s1 σ0 H1 _ I1 ⟨ρ, A1, F, B1, ι1, g1, ev, mid_go q hlen hn r1⟩) fun us s2 y => ?_
  obtain ⟨vs, H2, I2, r2, q2⟩ := y
  exact ⟨I2.kIn, run_fd (us := .ref a :: us) (vs := .ref a :: vs) hfd tk I2 (.cons rfl r2) q2⟩
theorem se_meth0 {pl : Sem Bool} (hM : ∀ c f, sel.lookup c = some f → MD X W.tb c m 1 f) (tk : Takes X W.w) (ho : SE X W o mo)
    (ht : eval (.Call (.Attribute o m apos) [] [] pos) X.env = (eval o X.env >>= fun ov => standAt apos.atName >>= fun _ => holding [ov] (getMethod ov m pl) >>= fun z => callWith pos z.1 z.2 (backTo pos (starEach [] X.env)) (backToKw pos (keywordEach [] X.env))) := by rfl) :
    SE X W (.Call (.Attribute o m apos) [] [] pos) (mMeth sel m mo aNil) := by
  refine ⟨fun pins s0 σ0 H0 Q0 I0 q0 => PySem.W.methodCall_KW (pl := pl) (thn (ho.run pins s0 σ0 H0 _ I0 (meth_mid hM q0)) fun u s1 z => ?_) ht⟩
  obtain ⟨v, H1, I1, rv, d, f, ρ, A1, F, B1, ι1, a, C, dx, mad, fs, g1, ev, r1, rfl, hH, hl, hcl, hme, hfd, q⟩ := z
  obtain rfl : u = Value.ref a := rv
  refine getmeth_ok I1 hH hcl hme hl (PySem.W.callWith_K0 (first := [.ref a]) I1.kIn hme.kp ?_)
  have q2 : PostE X W σ0 F B1 ι1 (f [d] A1) Q0 := q
  exact run_fd (us := [.ref a]) (vs := [.ref a]) hfd tk I1 (.cons rfl .nil) ⟨[d], A1, F, B1, ι1, rfl, g1, .cons r1 .nil, Post.call q2⟩

/-! ### instances -/
def mMake (c : Str) (f : FM) (mr : MA) : ME := bd mr fun ds => fun _ A => match f (.ref A.length :: ds) (A ++ [.ins c []]) with
  | .ok .non A' => if A.length < A'.length then .ok (.ref A.length) A' else .no
  | .exc c A' => .exc c A'
  | _ => .no
theorem run_makeM {pins : List (Addr × Obj)} {σ : L2.St} {H : Hp} {s : Shared} {Q : VK} {us : List Value} {vs : List V} {C : Addr} {fd : FuncData} {ps : List Str} {k : Nat} (M : Mk X.K C a) (F : FnOk X.prog X.w X.K X.mg X.base (L2.CX X.prog X.w) k a fd ps (spM X.K X.mg W.tb n f)) (hr : Room (k + 1) X.A) (hb : Binds X.K fd ps []) (tk : Takes X W.w)
    (I : Inv X pins σ H s) (r : Vals vs us) (h : ∀ y dy, H y = none → H dy = none → dy ≠ y → spM X.K X.mg W.tb n f (.ref y :: vs) (upd (upd H dy (.own y)) y (.ins C dy [])) (fun v H2 => v = .non ∧ Q (.ref y) H2) (WE W.w σ)) :
    wpAny (model X.prog X.w) X.A (call (.ref C) us) (EP X pins σ Q) X.xe s := by
  have hq := h (s.heap.objs.size + 1) s.heap.objs.size (I.hok.fresh (Nat.le_succ _)) (I.hok.fresh (Nat.le_refl _)) (Nat.ne_of_lt (Nat.lt_succ_self _))
  have J := Inv.made (C := C) I
  have rr : Vals (V.ref (s.heap.objs.size + 1) :: vs) (Value.ref (s.heap.objs.size + 1) :: us) := .cons rfl r
  have hl : (Value.ref (s.heap.objs.size + 1) :: us).length = ps.length := rr.length.symm.trans (F.len _ _ _ _ hq)
  have hbb := hb _ (Value.ref (s.heap.objs.size + 1) :: us) J.kIn (by rw [List.append_nil]; exact hl)
  rw [List.append_nil] at hbb
  have go := F.run _ X.stack _ _ ⟨Value.ref (s.heap.objs.size + 1) :: us, []⟩ _ _ _ _ (hr.make C us []) (J.env0.make C us []) hbb rr hq
  refine wpAny_call (make_map (f := a) I.kIn M.makes M.init (beq_iff_eq.mp M.fn) (codeAny_mono go fun z s' hz => ?_))
  cases z with
  | error e => exact passAt tk σ pins _ _ e s' J hz
  | ok fl =>
    cases fl with
    | ret u =>
      obtain ⟨v, H', I3, rv, ev, q3⟩ := J.after hz
      subst ev
      exact ⟨rv, ⟨V.ref (s.heap.objs.size + 1), H', I3, rfl, q3⟩⟩
    | next => exact hz.elim
    | brk => exact hz.elim
    | cont => exact hz.elim
/-- class x is made by a, an __init__ of mirror f -/
def KD (X : Cx) (tb : Tb) (c : Str) (n : Nat) (f : FM) : Prop := ∃ (C a : Addr) (fd : FuncData) (ps : List Str) (k : Nat), X.mg c = some (.ref C) ∧ Mk X.K C a ∧ FnOk X.prog X.w X.K X.mg X.base (L2.CX X.prog X.w) k a fd ps (spM X.K X.mg tb n f) ∧ Room (k + 1) X.A ∧ Binds X.K fd ps []
theorem make_go {σ : L2.St} {F B : Hp} {ι : List Addr} {ds : List D} {A : Sto} {H : Hp} {Q : VK} {C y dy : Addr} {vs : List V} {ρ : Env} (hC : X.mg x = some (.ref C)) (g : Good X.K X.mg W.tb F B ι A H) (r : RepL X.K B ι ds vs) (hn : ds.length + 1 = n)
    (q : PostE X W σ F B ι (match f (.ref A.length :: ds) (A ++ [.ins x []]) with
      | .ok .non A' => if A.length < A'.length then .ok (.ref A.length) A' else .no
      | .exc c A' => .exc c A'
      | _ => .no) Q) (hy : H y = none) (hdy : H dy = none) (hne : dy ≠ y) :
    spM X.K X.mg W.tb n f (.ref y :: vs) (upd (upd H dy (.own y)) y (.ins C dy [])) (fun v H2 => v = .non ∧ Q (.ref y) H2) (WE W.w σ) := by
  have e1 : Ex H (upd H dy (.own y)) := Ex.new hdy
  have hy1 : upd H dy (.own y) y = none := by rw [upd_ne (Ne.symm hne)]; exact hy
  have e2 := Ex.new hy1 (o := HO.ins C dy [])
  have g1 := g.grow (e1.trans e2)
  have hl := g.fresh hy
  obtain ⟨g2, l2⟩ := g1.own (o := .ins x []) (fresh_back g.ex hy) (fresh_back g.fr hy) hl ⟨C, dy, [], hC, upd_same, .nil⟩
  refine ⟨.ref A.length :: ds, A ++ [.ins x []], F, B, ι ++ [y], by simpa using hn, g2, .cons (.ref (by rw [← g.len]; simp)) (r.mono l2), ?_⟩
  cases hf : f (.ref A.length :: ds) (A ++ [.ins x []]) with
  | no => simp only [hf] at q; exact q.elim
  | exc c A' => simp only [hf] at q; exact fun B' ι' H' l' => q B' ι' H' (l2.trans l')
  | ok d A' =>
    cases d with
    | non =>
      simp only [hf] at q
      by_cases hlt : A.length < A'.length
      · rw [if_pos hlt] at q
        intro B' ι' H' v l' g' r'
        cases r'
        exact ⟨rfl, q B' ι' H' (.ref y) (l2.trans l') g' (.ref (l'.at (by rw [← g.len]; simp)))⟩
      · rw [if_neg hlt] at q; exact q.elim
    | _ => simp only [hf] at q; exact q.elim
theorem se_make (h : KD X W.tb x n f) (tk : Takes X W.w) (hg : Gl X x) (ha : SA X W (e :: es) mr) (hlen : ∀ ρ A ds A', mr ρ A = .ok ds A' → ds.length = (e :: es).length) (hn : (e :: es).length + 1 = n)
    (hdb : (x == ("__debug__" : Str)) = false := by decide) (he : starEach (e :: es) X.env = (false, eval e X.env) :: starEach es X.env := by rfl) (hpl : (backTo pos (starEach es X.env)).any (·.1) = false := by rfl) :
    SE X W (.Call (.Name x p) (e :: es) [] pos) (mMake x f mr) := by
  obtain ⟨C, a, fd, ps, k, hC, M, Fn, hr, hb⟩ := h
  refine ⟨fun pins s0 σ0 H0 Q0 I0 q0 => wpAny_Call_Name_kw (ld_glob I0 hg hC ?_ hdb)⟩
  obtain ⟨ρ, A, F, B, ι, g, ev, q⟩ := q0
  have q := q.bind
  refine PySem.W.callWith_K (h₀ := X.base) I0.ok.mod.kin M.kp (thn (ha.run pos pins s0 σ0 H0 (fun vs H1 => ∀ y dy, H1 y = none → H1 dy = none → dy ≠ y → spM X.K X.mg W.tb n f (.ref y :: vs) (upd (upd H1 dy (.own y)) y (.ins C dy [])) (fun v H2 => v = .non ∧ Q0 (.ref y) H2) (WE W.w σ0)) I0 ⟨ρ, A, F, B, ι, g, ev, ?_⟩) fun us s1 z => ?_) he hpl
  · cases hmr : mr ρ A with
    | exc c A1 => rw [hmr] at q; exact q
    | no => rw [hmr] at q; exact q.elim
    | ok ds A1 =>
      rw [hmr] at q
      exact fun B1 ι1 H1 vs l1 g1 r1 y dy h1 h2 h3 => make_go (ρ := ρ) hC g1 r1 (by rw [hlen _ _ _ _ hmr]; exact hn) (PostE.mono l1 q) h1 h2 h3
  · obtain ⟨vs, H1, I1, r, q1⟩ := z
    exact ⟨I1.kIn, run_makeM M Fn hr hb tk I1 r q1⟩

/-! ### stores to fields -/
def putA (cs : List Str) (f : Str) (A : Sto) (d y : D) : Option Sto := match d with
  | .ref n => match A[n]? with
    | some (.ins c fs) => if cs.contains c && decide (fs.length < 900) then some (A.set n (.ins c (putD f y fs))) else none
    | _ => none
  | _ => none
def stO (o : Sto → Option Sto) : MS := fun ρ A => match o A with | some A' => .nx ρ A' | none => .no
def sFldD (cs : List Str) (mo mv : ME) (f : Str) : MS := bS mv fun y => bS mo fun d => stO fun A => putA cs f A d y
theorem zip_put {K : PySem.W.Frag} {B : Hp} {ι : List Addr} {f : Str} {d : D} {v : V} (h : Rep K B ι d v) : ∀ {fs : List (Str × D)} {vs : List V}, RepL K B ι (fs.map (·.2)) vs → ∃ ws, putF f v ((fs.map (·.1)).zip vs) = ((putD f d fs).map (·.1)).zip ws ∧ RepL K B ι ((putD f d fs).map (·.2)) ws
  | [], vs, r => by
    cases r
    exact ⟨[v], rfl, .cons h .nil⟩
  | (g, d0) :: fs, vs, r => by
    cases r with
    | @cons _ v0 _ vs' h0 r =>
      unfold putD
      by_cases hg : g = f
      · rw [if_pos hg]
        exact ⟨v :: vs', by simp [putF, hg], .cons h r⟩
      · rw [if_neg hg]
        obtain ⟨ws, e1, e2⟩ := zip_put h r
        refine ⟨v0 :: ws, ?_, .cons h0 e2⟩
        rw [List.map_cons, List.zip_cons_cons, List.map_cons, List.zip_cons_cons]
        unfold putF
        rw [if_neg hg, e1]
theorem put_go {cs : List Str} {F B : Hp} {ι : List Addr} {A A' : Sto} {H : Hp} {d y : D} {v u : V} (hc : ClsOk X cs x) (g : Good X.K X.mg W.tb F B ι A H) (r : Rep X.K B ι d v) (ry : Rep X.K B ι y u) (hp : putA cs x A d y = some A') :
    ∃ a C dx fs, v = .ref a ∧ H a = some (.ins C dx fs) ∧ Cls X.K C ∧ NoAttr X.K C x ∧ fs.length < 1000 ∧ Good X.K X.mg W.tb F B ι A' (upd H a (.ins C dx (putF x u fs))) := by
  unfold putA at hp
  cases d with
  | ref n =>
    simp only at hp
    cases hA : A[n]? with
    | none => rw [hA] at hp; cases hp
    | some o =>
      rw [hA] at hp
      cases o with
      | ins c fs =>
        simp only at hp
        obtain ⟨hcs, rfl⟩ := ite_some hp
        simp only [Bool.and_eq_true, decide_eq_true_eq] at hcs
        cases r with
        | @ref _ a hi =>
          obtain ⟨C, dx, vs, hC, hH, rr⟩ := g.obj n a _ hi hA
          obtain ⟨k1, k2⟩ := hc c (by simpa using hcs.1) C hC
          obtain ⟨ws, e1, e2⟩ := zip_put (f := x) ry rr
          refine ⟨a, C, dx, _, rfl, hH, k1, k2, ?_, g.wr hi hA rfl ⟨C, dx, ws, hC, by rw [upd_same, e1], e2⟩⟩
          have := rr.length
          simp only [List.length_zip, List.length_map] at *
          omega
      | _ => cases hp
  | _ => cases hp
theorem ss_fld {cs : List Str} {pos' : Pos} (hc : ClsOk X cs x) (ho : SE X W o mo) (hv : SE X W e ma) (hs : swapsWith e (some (.Attribute o x pos')) pos.line X.env = pure false := by rfl) : SS X W (.Assign [.Attribute o x pos'] e pos) (sFldD cs mo ma x) :=
  (ps_fld ho hv hs).to fun D σ H ⟨ρ, A, F, B, ι, g, ev, q⟩ => ⟨ρ, A, F, B, ι, g, ev, (PostS.bind ev q).imp fun y A1 q1 B1 ι1 H1 u l1 g1 ry => ⟨ρ, A1, F, B1, ι1, g1, ev.mono l1, (PostS.bind (ev.mono l1) (PostS.mono l1 q1)).imp fun d A2 q2 B2 ι2 H2 v l2 g2 r2 => by
    have q2 : PostS X W F B1 ι1 (stO (fun A => putA cs x A d y) ρ A2) D := q2
    unfold stO at q2
    cases hp : putA cs x A2 d y with
    | none => simp only [hp] at q2; exact q2.elim
    | some A3 =>
      simp only [hp] at q2
      obtain ⟨a, C, dx, fs, rfl, hH, k1, k2, k3, g3⟩ := put_go hc g2 r2 (ry.mono l2) hp
      exact ⟨a, C, dx, fs, rfl, hH, k1, k2, k3, q2 B2 ι2 _ σ l2 g3 ((ev.mono l1).mono l2)⟩⟩⟩
/-- o.f += e, of ints -/
def sAugF (cs : List Str) (mo mv : ME) (f : Str) (op2 : Int → Int → Int) : MS := bS mo fun d => bS (rd fun A => match fldD A d f with | some (.int i) => some i | _ => none) fun i => bS mv fun y => stO fun A => match y with
  | .int j => if (match fldD A d f with | some _ => true | none => false) then putA cs f A d (.int (op2 i j)) else none
  | _ => none
end
end Sm

set_option Elab.async false
set_option linter.all false
set_option autoImplicit false
set_option maxRecDepth 100000
set_option maxHeartbeats 1000000
/-! Sm7: what the operators and builtins do to deep values. -/
namespace Sm
open PySem L2 Evl PySem.Spec PyProof.Rows
section
variable {X : Cx} {W : Wt} {a b c e o i : Expr} {es : List Expr} {pos p : Pos} {ma mb mo mi : ME} {mr : MA} {x : Str}

/-! ### ints -/
def i2 (c : Int → Int → Bool) (g : Int → Int → Int) : Sto → D → D → Option D := fun _ x y => match x, y with
  | .int i, .int j => if c i j then some (.int (g i j)) else none
  | _, _ => none
def b2 (g : Int → Int → Bool) : Sto → D → D → Option D := fun _ x y => match x, y with
  | .int i, .int j => some (.bl (g i j))
  | _, _ => none
theorem op2_i2 {C : Int → Int → Prop} {c : Int → Int → Bool} {g : Int → Int → Int} (hc : ∀ i j, c i j = true → C i j) : Op2 X (i2 c g) (rI C fun i j => .int (g i j)) := by
  intro tb F B ι A H x y v u d Q gd rx ry hf q
  unfold i2 at hf
  split at hf
  · obtain ⟨h1, rfl⟩ := ite_some hf
    cases rx; cases ry
    exact ⟨_, _, rfl, rfl, hc _ _ h1, q B ι H _ Le.refl gd .int⟩
  · cases hf
theorem op2_i0 {g : Int → Int → Int} : Op2 X (i2 (fun _ _ => true) g) (rI0 fun i j => .int (g i j)) := by
  intro tb F B ι A H x y v u d Q gd rx ry hf q
  unfold i2 at hf
  split at hf
  · obtain ⟨h1, rfl⟩ := ite_some hf
    cases rx; cases ry
    exact ⟨_, _, rfl, rfl, q B ι H _ Le.refl gd .int⟩
  · cases hf
theorem op2_b0 {g : Int → Int → Bool} : Op2 X (b2 g) (rI0 fun i j => .bl (g i j)) := by
  intro tb F B ι A H x y v u d Q gd rx ry hf q
  unfold b2 at hf
  split at hf
  · cases hf
    cases rx; cases ry
    exact ⟨_, _, rfl, rfl, q B ι H _ Le.refl gd .bl⟩
  · cases hf
abbrev fAdd := i2 (fun _ _ => true) fun i j => i + j
abbrev fSub := i2 (fun _ _ => true) fun i j => i - j
/-- * of two factors of together less than a hundred million bits -/
def CMulV (i j : Int) : Prop := i.natAbs.log2 + j.natAbs.log2 < 100000000
theorem CMulV.ok {i j : Int} (h : CMulV i j) : IntMulOk i j := by
  have b : ∀ x : Int, Builtin.Int.intBits x ≤ x.natAbs.log2 + 1 := fun x => by
    unfold Builtin.Int.intBits
    split <;> omega
  have h1 := b i
  have h2 := b j
  have h3 : i.natAbs.log2 + j.natAbs.log2 < 100000000 := h
  have e : bitsLine = 134217728 := by decide
  unfold IntMulOk
  intro z
  have z2 := (Bool.and_eq_true _ _ ▸ z).2
  unfold Builtin.Int.intTooBig at z2
  have z3 := of_decide_eq_true z2
  rw [e] at z3
  omega
theorem op_mulV : OpR X (binaryOp .Mult) (rI CMulV fun i j => .int (i * j)) := opI fun _ _ _ _ _ _ _ hc q => mul_int q hc.ok
abbrev fMul := i2 (fun i j => decide (i.natAbs.log2 + j.natAbs.log2 < 100000000)) fun i j => i * j
abbrev fDiv := i2 (fun _ j => decide (0 < j) && decide (j.natAbs.log2 < 9000)) fun i j => i / j
abbrev fMod := i2 (fun _ j => decide (0 < j)) fun i j => i % j
abbrev fPow := i2 (fun i j => decide (0 ≤ j) && decide (j.natAbs ≤ 1000000) && decide (i.natAbs < 2 ^ 64)) fun i j => i ^ j.toNat
abbrev fLt := b2 fun i j => decide (i < j)
abbrev fLe := b2 fun i j => decide (i ≤ j)
abbrev fGt := b2 fun i j => decide (i > j)
abbrev fGe := b2 fun i j => decide (i ≥ j)
theorem se_add (ha : SE X W a ma) (hb : SE X W b mb) : SE X W (.BinOp a .Add b pos) (mB fAdd ma mb) := se_op op_add op2_i0 ha hb
theorem se_sub (ha : SE X W a ma) (hb : SE X W b mb) : SE X W (.BinOp a .Sub b pos) (mB fSub ma mb) := se_op op_sub op2_i0 ha hb
theorem se_mul (ha : SE X W a ma) (hb : SE X W b mb) : SE X W (.BinOp a .Mult b pos) (mB fMul ma mb) := se_op op_mulV (op2_i2 fun i j h => of_decide_eq_true h) ha hb
theorem se_div (ha : SE X W a ma) (hb : SE X W b mb) : SE X W (.BinOp a .FloorDiv b pos) (mB fDiv ma mb) := se_op op_fdivW (op2_i2 fun i j h => by
  simp only [Bool.and_eq_true, decide_eq_true_eq] at h
  exact h) ha hb
theorem se_mod (ha : SE X W a ma) (hb : SE X W b mb) : SE X W (.BinOp a .Mod b pos) (mB fMod ma mb) := se_op op_mod (op2_i2 fun i j h => of_decide_eq_true h) ha hb
theorem se_pow (ha : SE X W a ma) (hb : SE X W b mb) : SE X W (.BinOp a .Pow b pos) (mB fPow ma mb) := se_op op_pow (op2_i2 fun i j h => by
  simp only [Bool.and_eq_true, decide_eq_true_eq] at h
  exact ⟨h.1.1, by omega, h.2⟩) ha hb

/-! ### == of deep values -/
mutual
def pyD (A : Sto) : Nat → D → Option PyData
  | 0, _ => none
  | n + 1, d => match d with
    | .non => some .none
    | .bl b => some (.bool b)
    | .int i => some (.int i)
    | .str x => some (.str x)
    | .tup ds => (pyDs A n ds).map .tuple
    | .lst ds => (pyDs A n ds).map .list
    | .ref k => match A[k]? with
      | some (.lst ds) => (pyDs A n ds).map .list
      | _ => none
    | _ => none
def pyDs (A : Sto) : Nat → List D → Option (List PyData)
  | 0, _ => none
  | _ + 1, [] => some []
  | n + 1, d :: ds => match pyD A n d, pyDs A n ds with
    | some x, some xs => some (x :: xs)
    | _, _ => none
end
section
variable {tb : Tb} {F B H : Hp} {ι : List Addr} {A : Sto}
mutual
theorem dp_of (g : Good X.K X.mg tb F B ι A H) : ∀ (n : Nat) {d : D} {v : V} {z : PyData}, Rep X.K B ι d v → pyD A n d = some z → Dp X.K H v z
  | 0, _, _, _, _, h => by simp [pyD] at h
  | n + 1, _, _, _, .non, h => by simp [pyD] at h; subst h; exact .non
  | n + 1, _, _, _, .bl, h => by simp [pyD] at h; subst h; exact .bl _
  | n + 1, _, _, _, .int, h => by simp [pyD] at h; subst h; exact .int _
  | n + 1, _, _, _, .str, h => by simp [pyD] at h; subst h; exact .str _
  | n + 1, _, _, _, .tup hv r, h => by
    simp only [pyD, Option.map_eq_some_iff] at h
    obtain ⟨zs, h1, h2⟩ := h
    subst h2
    exact .tup (ex_t g.ex hv) (dps_of g n r h1)
  | n + 1, _, _, _, .lst hv r, h => by
    simp only [pyD, Option.map_eq_some_iff] at h
    obtain ⟨zs, h1, h2⟩ := h
    subst h2
    exact .lst (ex_l g.ex hv) (dps_of g n r h1)
  | n + 1, _, _, _, .dctK hv r, h => by simp [pyD] at h
  | n + 1, .ref k, _, _, .ref hk, h => by
    simp only [pyD] at h
    cases hA : A[k]? with
    | none => rw [hA] at h; cases h
    | some u =>
      rw [hA] at h
      cases u with
      | lst ds =>
        simp only [Option.map_eq_some_iff] at h
        obtain ⟨zs, h1, h2⟩ := h
        subst h2
        obtain ⟨vs, e, r⟩ := g.obj k _ _ hk hA
        exact .lst (sq_of e) (dps_of g n r h1)
      | _ => cases h
theorem dps_of (g : Good X.K X.mg tb F B ι A H) : ∀ (n : Nat) {ds : List D} {vs : List V} {zs : List PyData}, RepL X.K B ι ds vs → pyDs A n ds = some zs → DpAll X.K H vs zs
  | 0, _, _, _, _, h => by simp [pyDs] at h
  | n + 1, _, _, _, .nil, h => by simp [pyDs] at h; subst h; exact .nil
  | n + 1, _, _, _, @RepL.cons _ _ _ d v ds vs hd r, h => by
    simp only [pyDs] at h
    cases h1 : pyD A n d with
    | none => rw [h1] at h; cases h
    | some x =>
      cases h2 : pyDs A n ds with
      | none => rw [h1, h2] at h; cases h
      | some xs =>
        rw [h1, h2] at h
        cases h
        exact .cons (dp_of g n hd h1) (dps_of g n r h2)
end
end
def fuelD : Nat := 3000
def eqD (neg : Bool) : Sto → D → D → Option D := fun A x y => match pyD A fuelD x, pyD A fuelD y with
  | some p, some q => if SeqAt.shaped p && SeqAt.shaped q then some (.bl (if neg then !PyData.eqv p q else PyData.eqv p q)) else none
  | _, _ => none
theorem op2_eq {neg : Bool} {r : R2} (hr : ∀ {x y : V} {H : Hp} {Q : VK} {d e : PyData}, Dp X.K H x d → Dp X.K H y e → SeqAt.shaped d = true → SeqAt.shaped e = true → Q (.bl (if neg then !PyData.eqv d e else PyData.eqv d e)) H → r x y H Q) : Op2 X (eqD neg) r := by
  intro tb F B ι A H x y v u d Q g rx ry hf q
  unfold eqD at hf
  cases h1 : pyD A fuelD x with
  | none => rw [h1] at hf; cases hf
  | some z =>
    cases h2 : pyD A fuelD y with
    | none => rw [h1, h2] at hf; cases hf
    | some w =>
      rw [h1, h2] at hf
      obtain ⟨hs, rfl⟩ := ite_some hf
      simp only [Bool.and_eq_true] at hs
      exact hr (dp_of g _ rx h1) (dp_of g _ ry h2) hs.1 hs.2 (q B ι H _ Le.refl g .bl)
theorem op2_eqs : Op2 X (eqD false) (rEqD X.K) := op2_eq fun h1 h2 h3 h4 h5 => ⟨_, _, h1, h2, h3, h4, h5⟩
theorem op2_nes : Op2 X (eqD true) (rNeD X.K) := op2_eq fun h1 h2 h3 h4 h5 => ⟨_, _, h1, h2, h3, h4, h5⟩
/-- is None, is not None -/
def isN (neg : Bool) (d : D) : Option D := match d with
  | .non => some (.bl (!neg))
  | _ => some (.bl neg)
theorem se_isN {j pos'} (ha : SE X W a ma) : SE X W (.Compare a [.Is] [.Constant .none j pos'] pos) (mU (fun _ => isN false) ma) := (pe_cmp (pc_isN ha)).to fun σ H Q q => by
  obtain ⟨ρ, A, F, B, ι, g, ev, q⟩ := q
  refine ⟨ρ, A, F, B, ι, g, ev, q.bind.imp fun d A1 q1 B1 ι1 H1 v l1 g1 r1 => ?_⟩
  obtain ⟨d', hd, q2⟩ := q1.rd
  cases r1 <;> (simp only [isN] at hd; cases hd; exact q2 B1 ι1 H1 _ l1 g1 .bl)
theorem se_notN {j pos'} (ha : SE X W a ma) : SE X W (.Compare a [.IsNot] [.Constant .none j pos'] pos) (mU (fun _ => isN true) ma) := (pe_cmp (pc_notN ha)).to fun σ H Q q => by
  obtain ⟨ρ, A, F, B, ι, g, ev, q⟩ := q
  refine ⟨ρ, A, F, B, ι, g, ev, q.bind.imp fun d A1 q1 B1 ι1 H1 v l1 g1 r1 => ?_⟩
  obtain ⟨d', hd, q2⟩ := q1.rd
  cases r1 <;> (simp only [isN] at hd; cases hd; exact q2 B1 ι1 H1 _ l1 g1 .bl)

/-! ### subscripts -/
def lstOf (A : Sto) (d : D) : Option (List D) := match d with
  | .lst ds => some ds
  | .ref k => match A[k]? with
    | some (.lst ds) => some ds
    | _ => none
  | _ => none
theorem lstOf_at {tb : Tb} {F B H : Hp} {ι : List Addr} {A : Sto} {d : D} {v : V} {ds : List D} (g : Good X.K X.mg tb F B ι A H) (r : Rep X.K B ι d v) (h : lstOf A d = some ds) : ∃ p vs, v = .ref p ∧ SqL X.K H p vs ∧ RepL X.K B ι ds vs := by
  unfold lstOf at h
  cases r with
  | lst hv rl => cases h; exact ⟨_, _, rfl, ex_l g.ex hv, rl⟩
  | @ref k a hk =>
    simp only at h
    cases hA : A[k]? with
    | none => rw [hA] at h; cases h
    | some u =>
      rw [hA] at h
      cases u with
      | lst ds' => cases h; obtain ⟨vs, e, rl⟩ := g.obj k a _ hk hA; exact ⟨a, vs, rfl, sq_of e, rl⟩
      | _ => cases h
  | _ => cases h
def ixD (A : Sto) (x y : D) : Option D := match x, y with
  | .tup ds, .int k => atI ds k
  | .str z, .int k => if szOk z.length then (atI z.cps.toList k).map fun c => .str ⟨#[c]⟩ else none
  | x, .int k => (lstOf A x).bind fun ds => atI ds k
  | _, _ => none
theorem atI_rep {K : PySem.W.Frag} {B : Hp} {ι : List Addr} {ds : List D} {vs : List V} {k : Int} {d : D} (r : RepL K B ι ds vs) (h : atI ds k = some d) : ∃ v, atI vs k = some v ∧ Rep K B ι d v := by
  unfold atI at h ⊢
  rw [r.length]
  cases hx : ixN ds.length k with
  | none => rw [hx] at h; cases h
  | some j => rw [hx] at h; exact r.get h
def rIxAll (K : PySem.W.Frag) : R2 := fun x y H Q => rIxL K x y H Q ∨ rIxT K x y H Q ∨ rIxS x y H Q
theorem ix_all : IxR X (rIxAll X.K) := fun value slice pins s σ H x y v u Q I rx ry h hs => by
  rcases h with h | h | h
  · exact ix_list value slice pins s σ H x y v u Q I rx ry h hs
  · exact ix_tup value slice pins s σ H x y v u Q I rx ry h hs
  · exact ix_str value slice pins s σ H x y v u Q I rx ry h hs
theorem op2_ix : Op2 X ixD (rIxAll X.K) := by
  intro tb F B ι A H x y v u d Q g rx ry hf q
  unfold ixD at hf
  split at hf
  · cases rx with
    | tup hv rl =>
      cases ry
      obtain ⟨w, hw, rw'⟩ := atI_rep rl hf
      exact .inr (.inl ⟨_, _, _, w, rfl, rfl, ex_t g.ex hv, hw, q B ι H w Le.refl g rw'⟩)
  · cases rx; cases ry
    rename_i z k
    cases hz : szOk z.length with
    | false => rw [hz, if_neg (by decide)] at hf; cases hf
    | true =>
      rw [hz, if_pos rfl] at hf
      simp only [Option.map_eq_some_iff] at hf
      obtain ⟨c, hc, rfl⟩ := hf
      exact .inr (.inr ⟨_, _, c, rfl, rfl, szOk.le hz, hc, q B ι H _ Le.refl g .str⟩)
  · cases ry
    rename_i k _ _
    simp only [Option.bind_eq_some_iff] at hf
    obtain ⟨ds, h1, h2⟩ := hf
    obtain ⟨p, vs, rfl, hs, rl⟩ := lstOf_at g rx h1
    obtain ⟨w, hw, rw'⟩ := atI_rep rl h2
    exact .inl ⟨p, vs, _, w, rfl, rfl, hs, hw, q B ι H w Le.refl g rw'⟩
  · cases hf
theorem se_ix (ha : SE X W a ma) (hb : SE X W b mb) (hs : PlainIx b := by exact fun _ _ => rfl) : SE X W (.Subscript a b pos) (mB ixD ma mb) := (pe_ix ix_all ha hb hs).to fun _ _ _ q => tOp_of op2_ix q

/-! ### builtins -/
theorem se_blt {id : String} {r : List V → Hp → VK → Prop} {f : Sto → List D → Option D} (hc : CallR X (.builtin id) r) (hf : OpN X f r) (hg : Gl X x) (hm : X.mg x = none) (hv : bootBuiltins x = some (.builtin id)) (ha : SA X W (e :: es) mr) (hn : x ≠ "__name__" := by decide)
    (hdb : (x == ("__debug__" : Str)) = false := by decide) (he : starEach (e :: es) X.env = (false, eval e X.env) :: starEach es X.env := by rfl) (hpl : (backTo pos (starEach es X.env)).any (·.1) = false := by rfl) : SE X W (.Call (.Name x p) (e :: es) [] pos) (mN f mr) :=
  (pe_callB hc hg hm hv ha hn hdb he hpl).to fun σ H Q q => by
    obtain ⟨ρ, A, F, B, ι, g, ev, q⟩ := q
    refine ⟨ρ, A, F, B, ι, g, ev, q.bind.imp fun ds A1 q1 B1 ι1 H1 vs l1 g1 r1 => ?_⟩
    obtain ⟨d, hd, q2⟩ := q1.rd
    exact hf g1 r1 hd fun B2 ι2 H2 w l2 => q2 B2 ι2 H2 w (l1.trans l2)
theorem se_typ {T : String} {r : List V → Hp → VK → Prop} {f : Sto → List D → Option D} (hc : CallR X (.type T) r) (hf : OpN X f r) (hg : Gl X x) (hm : X.mg x = none) (hv : bootBuiltins x = some (.type T)) (ha : SA X W (e :: es) mr) (hn : x ≠ "__name__" := by decide)
    (hdb : (x == ("__debug__" : Str)) = false := by decide) (he : starEach (e :: es) X.env = (false, eval e X.env) :: starEach es X.env := by rfl) (hpl : (backTo pos (starEach es X.env)).any (·.1) = false := by rfl) : SE X W (.Call (.Name x p) (e :: es) [] pos) (mN f mr) :=
  (pe_callTy hc hg hm hv ha hn hdb he hpl).to fun σ H Q q => by
    obtain ⟨ρ, A, F, B, ι, g, ev, q⟩ := q
    refine ⟨ρ, A, F, B, ι, g, ev, q.bind.imp fun ds A1 q1 B1 ι1 H1 vs l1 g1 r1 => ?_⟩
    obtain ⟨d, hd, q2⟩ := q1.rd
    exact hf g1 r1 hd fun B2 ι2 H2 w l2 => q2 B2 ι2 H2 w (l1.trans l2)
/-- those that make a fresh list -/
def OpL (X : Cx) (f : Sto → List D → Option (List D)) (r : List V → Hp → VK → Prop) : Prop := ∀ {tb : Tb} {F B : Hp} {ι : List Addr} {A : Sto} {H : Hp} {xs : List D} {vs : List V} {ds : List D} {Q : VK},
  Good X.K X.mg tb F B ι A H → RepL X.K B ι xs vs → f A xs = some ds → (∀ p us, H p = none → RepL X.K B ι ds us → Q (.ref p) (upd H p (.lst us))) → r vs H Q
def mNL (f : Sto → List D → Option (List D)) (m : MA) : MA := bd m fun xs => rd fun A => f A xs
theorem opL_go {r : List V → Hp → VK → Prop} {f : Sto → List D → Option (List D)} (hf : OpL X f r) {σ : L2.St} {H : Hp} {Q : VK} (q : tML X W (mNL f mr) σ H Q) : tCB r (tMA X W mr) σ H Q := by
  obtain ⟨ρ, A, F, B, ι, g, ev, q⟩ := q
  refine ⟨ρ, A, F, B, ι, g, ev, q.bind.imp fun ds A1 q1 B1 ι1 H1 vs l1 g1 r1 => ?_⟩
  obtain ⟨d, hd, q2⟩ := q1.rd
  exact hf g1 r1 hd fun p us hp ru => q2 B1 ι1 _ p us l1 (g1.grow (Ex.new hp)) upd_same (fresh_back g1.ex hp) (fresh_back g1.fr hp) (g1.fresh hp) ru
theorem sl_blt {id : String} {r : List V → Hp → VK → Prop} {f : Sto → List D → Option (List D)} (hc : CallR X (.builtin id) r) (hf : OpL X f r) (hg : Gl X x) (hm : X.mg x = none) (hv : bootBuiltins x = some (.builtin id)) (ha : SA X W (e :: es) mr) (hn : x ≠ "__name__" := by decide)
    (hdb : (x == ("__debug__" : Str)) = false := by decide) (he : starEach (e :: es) X.env = (false, eval e X.env) :: starEach es X.env := by rfl) (hpl : (backTo pos (starEach es X.env)).any (·.1) = false := by rfl) : SL X W (.Call (.Name x p) (e :: es) [] pos) (mNL f mr) :=
  (pe_callB hc hg hm hv ha hn hdb he hpl).to fun _ _ _ q => opL_go hf q
theorem sl_typ {T : String} {r : List V → Hp → VK → Prop} {f : Sto → List D → Option (List D)} (hc : CallR X (.type T) r) (hf : OpL X f r) (hg : Gl X x) (hm : X.mg x = none) (hv : bootBuiltins x = some (.type T)) (ha : SA X W (e :: es) mr) (hn : x ≠ "__name__" := by decide)
    (hdb : (x == ("__debug__" : Str)) = false := by decide) (he : starEach (e :: es) X.env = (false, eval e X.env) :: starEach es X.env := by rfl) (hpl : (backTo pos (starEach es X.env)).any (·.1) = false := by rfl) : SL X W (.Call (.Name x p) (e :: es) [] pos) (mNL f mr) :=
  (pe_callTy hc hg hm hv ha hn hdb he hpl).to fun _ _ _ q => opL_go hf q
end
end Sm

set_option Elab.async false
set_option linter.all false
set_option autoImplicit false
set_option maxRecDepth 100000
set_option maxHeartbeats 1000000
/-! Sm8: builtins, slices, stores into lists, walks. -/
namespace Sm
open PySem L2 Evl
section
variable {X : Cx} {W : Wt} {a b c e o i tg iter : Expr} {es : List Expr} {pos p : Pos} {ma mb mo mi mv : ME} {mr : MA} {x : Str}
/-- ints out of a list -/
def intsOf : List D → Option (List Int)
  | [] => some []
  | .int k :: ds => (intsOf ds).map (k :: ·)
  | _ => none
def boolsOf : List D → Option (List Bool)
  | [] => some []
  | .bl k :: ds => (boolsOf ds).map (k :: ·)
  | _ => none
theorem ints_rep {K : PySem.W.Frag} {B : Hp} {ι : List Addr} : ∀ {ds : List D} {vs : List V} {ns : List Int}, RepL K B ι ds vs → intsOf ds = some ns → vs = ns.map V.int ∧ ds = ns.map D.int
  | [], _, _, .nil, h => by cases h; exact ⟨rfl, rfl⟩
  | d :: ds, _, ns, .cons hd r, h => by
    cases d with
    | int k =>
      simp only [intsOf, Option.map_eq_some_iff] at h
      obtain ⟨ms, h1, h2⟩ := h
      subst h2
      cases hd
      obtain ⟨e1, e2⟩ := ints_rep r h1
      rw [e1, e2]
      exact ⟨rfl, rfl⟩
    | _ => simp [intsOf] at h
theorem bools_rep {K : PySem.W.Frag} {B : Hp} {ι : List Addr} : ∀ {ds : List D} {vs : List V} {ns : List Bool}, RepL K B ι ds vs → boolsOf ds = some ns → vs = ns.map V.bl
  | [], _, _, .nil, h => by cases h; rfl
  | d :: ds, _, ns, .cons hd r, h => by
    cases d with
    | bl k =>
      simp only [boolsOf, Option.map_eq_some_iff] at h
      obtain ⟨ms, h1, h2⟩ := h
      subst h2
      cases hd
      rw [bools_rep r h1]
      rfl
    | _ => simp [boolsOf] at h
theorem repL_ints {K : PySem.W.Frag} {B : Hp} {ι : List Addr} : ∀ ns : List Int, RepL K B ι (ns.map D.int) (ns.map V.int)
  | [] => .nil
  | _ :: ns => .cons .int (repL_ints ns)
theorem repL_one {K : PySem.W.Frag} {B : Hp} {ι : List Addr} {d : D} {vs : List V} (r : RepL K B ι [d] vs) : ∃ v, vs = [v] ∧ Rep K B ι d v := by
  cases r with
  | cons h r => cases r; exact ⟨_, rfl, h⟩
/-- a list or a tuple -/
def seqOf (A : Sto) (d : D) : Option (List D) := match d with
  | .tup ds => some ds
  | d => lstOf A d
theorem seqOf_at {tb : Tb} {F B H : Hp} {ι : List Addr} {A : Sto} {d : D} {v : V} {ds : List D} (g : Good X.K X.mg tb F B ι A H) (r : Rep X.K B ι d v) (h : seqOf A d = some ds) : ∃ q vs, v = .ref q ∧ (SqL X.K H q vs ∨ SqT X.K H q vs) ∧ RepL X.K B ι ds vs := by
  cases r with
  | tup hv rl => cases h; exact ⟨_, _, rfl, .inr (ex_t g.ex hv), rl⟩
  | lst hv rl => obtain ⟨q, vs, e, s, rr⟩ := lstOf_at g (.lst hv rl) h; exact ⟨q, vs, e, .inl s, rr⟩
  | ref hk => obtain ⟨q, vs, e, s, rr⟩ := lstOf_at g (.ref hk) h; exact ⟨q, vs, e, .inl s, rr⟩
  | _ => cases h
def dLen : Sto → List D → Option D := fun A ds => match ds with
  | [.str z] => if szOk z.length then some (.int z.length) else none
  | [.dct kvs] => none
  | [d] => (seqOf A d).map fun ds => .int ds.length
  | _ => none
def rLenAll (K : PySem.W.Frag) : List V → Hp → VK → Prop := fun xs H Q => (∃ q ys, xs = [.ref q] ∧ (SqL K H q ys ∨ SqT K H q ys) ∧ Q (.int ys.length) H) ∨ ∃ z, xs = [.str z] ∧ z.length ≤ sizeLine ∧ Q (.int z.length) H
theorem call_lenAll : CallR X (.builtin "len") (rLenAll X.K) := call_len_seq.or call_len_str
theorem opN_len : OpN X dLen (rLenAll X.K) := by
  intro tb F B ι A H xs vs d Q g r hf q
  unfold dLen at hf
  split at hf
  · obtain ⟨v, rfl, rv⟩ := repL_one r
    obtain ⟨h1, rfl⟩ := ite_some hf
    cases rv
    exact .inr ⟨_, rfl, szOk.le h1, q B ι H _ Le.refl g .int⟩
  · cases hf
  · obtain ⟨v, rfl, rv⟩ := repL_one r
    simp only [Option.map_eq_some_iff] at hf
    obtain ⟨ds, h1, rfl⟩ := hf
    obtain ⟨z, ws, rfl, hs, rl⟩ := seqOf_at g rv h1
    exact .inl ⟨z, ws, rfl, hs, by rw [rl.length]; exact q B ι H _ Le.refl g .int⟩
  · cases hf
def dSum : Sto → List D → Option D := fun A ds => match ds with
  | [d] => ((lstOf A d).bind intsOf).map fun ns => .int ns.sum
  | _ => none
def fInts (f : List Int → Option Int) : Sto → List D → Option D := fun A ds => match ds with | [d] => ((lstOf A d).bind intsOf).bind fun ns => (f ns).map .int | _ => none
theorem opN_ints {f : List Int → Option Int} {r : List V → Hp → VK → Prop} (hr : ∀ {q : Addr} {ns : List Int} {H : Hp} {Q : VK} {k : Int}, SqL X.K H q (ns.map V.int) → f ns = some k → Q (.int k) H → r [.ref q] H Q) :
    OpN X (fInts f) r := by
  intro tb F B ι A H xs vs d Q g rp hf q
  unfold fInts at hf
  split at hf
  · obtain ⟨v, rfl, rv⟩ := repL_one rp
    simp only [Option.bind_eq_some_iff, Option.map_eq_some_iff] at hf
    obtain ⟨ns, ⟨ds, h1, h2⟩, k, h3, rfl⟩ := hf
    obtain ⟨z, ws, rfl, hs, rl⟩ := lstOf_at g rv h1
    obtain ⟨e1, e2⟩ := ints_rep rl h2
    rw [e1] at hs
    exact hr hs h3 (q B ι H _ Le.refl g .int)
  · cases hf
theorem opN_sum : OpN X (fInts fun ns => some ns.sum) (rSum X.K) := opN_ints fun h1 h2 h3 => by
  cases h2
  exact ⟨_, _, rfl, h1, h3⟩
def maxOf : List Int → Option Int
  | [] => none
  | k :: ks => some (ks.foldl max k)
def minOf : List Int → Option Int
  | [] => none
  | k :: ks => some (ks.foldl min k)
theorem foldl_max_le : ∀ (ks : List Int) (k : Int), k ≤ ks.foldl max k ∧ ∀ y ∈ ks, y ≤ ks.foldl max k
  | [], k => ⟨Int.le_refl _, by simp⟩
  | y :: ks, k => by
    obtain ⟨h1, h2⟩ := foldl_max_le ks (max k y)
    rw [List.foldl_cons]
    refine ⟨by omega, fun z hz => ?_⟩
    rcases List.mem_cons.mp hz with rfl | hz
    · omega
    · exact h2 z hz
theorem foldl_min_le : ∀ (ks : List Int) (k : Int), ks.foldl min k ≤ k ∧ ∀ y ∈ ks, ks.foldl min k ≤ y
  | [], k => ⟨Int.le_refl _, by simp⟩
  | y :: ks, k => by
    obtain ⟨h1, h2⟩ := foldl_min_le ks (min k y)
    rw [List.foldl_cons]
    refine ⟨by omega, fun z hz => ?_⟩
    rcases List.mem_cons.mp hz with rfl | hz
    · omega
    · exact h2 z hz
theorem maxOf_is {ns : List Int} {k m : Int} (h : maxOf ns = some k) (hm : m ∈ ns) (hu : ∀ y, y ∈ ns → y ≤ m) : m = k := by
  cases ns with
  | nil => cases hm
  | cons x xs =>
    cases h
    obtain ⟨h1, h2⟩ := foldl_max_le xs x
    have a1 : m ≤ xs.foldl max x := by
      rcases List.mem_cons.mp hm with rfl | z
      · exact h1
      · exact h2 m z
    have a2 : xs.foldl max x ≤ m := by
      have : ∀ (ks : List Int) (z : Int), z ≤ m → (∀ y ∈ ks, y ≤ m) → ks.foldl max z ≤ m := by
        intro ks
        induction ks with
        | nil => intro z hz _; exact hz
        | cons y ks ih => intro z hz hy; exact ih _ (by have := hy y (by simp); omega) fun w hw => hy w (by simp [hw])
      exact this xs x (hu x (by simp)) fun y hy => hu y (by simp [hy])
    omega
theorem minOf_is {ns : List Int} {k m : Int} (h : minOf ns = some k) (hm : m ∈ ns) (hu : ∀ y, y ∈ ns → m ≤ y) : m = k := by
  cases ns with
  | nil => cases hm
  | cons x xs =>
    cases h
    obtain ⟨h1, h2⟩ := foldl_min_le xs x
    have a1 : xs.foldl min x ≤ m := by
      rcases List.mem_cons.mp hm with rfl | z
      · exact h1
      · exact h2 m z
    have a2 : m ≤ xs.foldl min x := by
      have : ∀ (ks : List Int) (z : Int), m ≤ z → (∀ y ∈ ks, m ≤ y) → m ≤ ks.foldl min z := by
        intro ks
        induction ks with
        | nil => intro z hz _; exact hz
        | cons y ks ih => intro z hz hy; exact ih _ (by have := hy y (by simp); omega) fun w hw => hy w (by simp [hw])
      exact this xs x (hu x (by simp)) fun y hy => hu y (by simp [hy])
    omega
theorem opN_max : OpN X (fInts maxOf) (rMax X.K) := opN_ints fun {q ns H Q k} h1 h2 h3 => ⟨_, ns, rfl, h1, by cases ns with | nil => cases h2 | cons => simp, fun m hm hu => by rw [maxOf_is h2 hm hu]; exact h3⟩
theorem opN_min : OpN X (fInts minOf) (rMin X.K) := opN_ints fun {q ns H Q k} h1 h2 h3 => ⟨_, ns, rfl, h1, by cases ns with | nil => cases h2 | cons => simp, fun m hm hu => by rw [minOf_is h2 hm hu]; exact h3⟩
def fBools (f : List Bool → Bool) : Sto → List D → Option D := fun A ds => match ds with | [d] => ((lstOf A d).bind boolsOf).map fun ns => .bl (f ns) | _ => none
theorem opN_bools {f : List Bool → Bool} {r : List V → Hp → VK → Prop} (hr : ∀ {q : Addr} {ns : List Bool} {H : Hp} {Q : VK}, SqL X.K H q (ns.map V.bl) → Q (.bl (f ns)) H → r [.ref q] H Q) : OpN X (fBools f) r := by
  intro tb F B ι A H xs vs d Q g rp hf q
  unfold fBools at hf
  split at hf
  · obtain ⟨v, rfl, rv⟩ := repL_one rp
    simp only [Option.bind_eq_some_iff, Option.map_eq_some_iff] at hf
    obtain ⟨ns, ⟨ds, h1, h2⟩, rfl⟩ := hf
    obtain ⟨z, ws, rfl, hs, rl⟩ := lstOf_at g rv h1
    rw [bools_rep rl h2] at hs
    exact hr hs (q B ι H _ Le.refl g .bl)
  · cases hf
theorem opN_any : OpN X (fBools fun bs => bs.any id) (rAny X.K) := opN_bools fun h1 h2 => ⟨_, _, rfl, h1, h2⟩
theorem opN_all : OpN X (fBools fun bs => bs.all id) (rAll X.K) := opN_bools fun h1 h2 => ⟨_, _, rfl, h1, h2⟩
def dAbs : Sto → List D → Option D := fun _ ds => match ds with | [.int k] => some (.int (if k < 0 then -k else k)) | _ => none
theorem opN_abs : OpN X dAbs (fun xs H Q => ∃ i, xs = [V.int i] ∧ Q (.int (if i < 0 then -i else i)) H) := by
  intro tb F B ι A H xs vs d Q g rp hf q
  unfold dAbs at hf
  split at hf
  · obtain ⟨v, rfl, rv⟩ := repL_one rp
    cases hf; cases rv
    exact ⟨_, rfl, q B ι H _ Le.refl g .int⟩
  · cases hf
def dInt : Sto → List D → Option D := fun _ ds => match ds with | [.int k] => some (.int k) | [.bl k] => some (.int (if k then 1 else 0)) | _ => none
theorem opN_int : OpN X dInt (fun xs H Q => (∃ i, xs = [V.int i] ∧ Q (.int i) H) ∨ ∃ k, xs = [V.bl k] ∧ Q (.int (if k then 1 else 0)) H) := by
  intro tb F B ι A H xs vs d Q g rp hf q
  unfold dInt at hf
  split at hf
  · obtain ⟨v, rfl, rv⟩ := repL_one rp
    cases hf; cases rv
    exact .inl ⟨_, rfl, q B ι H _ Le.refl g .int⟩
  · obtain ⟨v, rfl, rv⟩ := repL_one rp
    cases hf; cases rv
    exact .inr ⟨_, rfl, q B ι H _ Le.refl g .int⟩
  · cases hf
/-- list(..), tuple(..) of lists and tuples -/
def dSeq : Sto → List D → Option (List D) := fun A ds => match ds with | [d] => seqOf A d | _ => none
theorem opL_list : OpL X dSeq (fun xs H Q => ∃ p ys, xs = [V.ref p] ∧ (SqL X.K H p ys ∨ SqT X.K H p ys) ∧ ∀ l, H l = none → Q (.ref l) (upd H l (.lst ys))) := by
  intro tb F B ι A H xs vs ds Q g rp hf q
  unfold dSeq at hf
  split at hf
  · obtain ⟨v, rfl, rv⟩ := repL_one rp
    obtain ⟨z, ws, rfl, hs, rl⟩ := seqOf_at g rv hf
    exact ⟨z, ws, rfl, hs, fun l hl => q l ws hl rl⟩
  · cases hf
def dTup : Sto → List D → Option D := fun A ds => (dSeq A ds).map .tup
theorem opN_tuple : OpN X dTup (fun xs H Q => ∃ p ys, xs = [V.ref p] ∧ ((SqL X.K H p ys ∧ ∀ l, H l = none → Q (.ref l) (upd H l (.tup ys))) ∨ (SqT X.K H p ys ∧ Q (.ref p) H))) := by
  intro tb F B ι A H xs vs d Q g rp hf q
  unfold dTup dSeq at hf
  simp only [Option.map_eq_some_iff] at hf
  obtain ⟨ds, hf, rfl⟩ := hf
  split at hf
  · obtain ⟨v, rfl, rv⟩ := repL_one rp
    cases rv with
    | tup hv rl => cases hf; exact ⟨_, _, rfl, .inr ⟨ex_t g.ex hv, q B ι H _ Le.refl g (.tup hv rl)⟩⟩
    | lst hv rl =>
      obtain ⟨z, ws, e1, hs, rr⟩ := lstOf_at g (.lst hv rl) hf
      exact ⟨z, ws, by rw [e1], .inl ⟨hs, fun l hl => by
        obtain ⟨g2, l2⟩ := g.newB (o := .tup ws) hl
        exact q _ ι _ _ l2 g2 (.tup (st_of upd_same) (rr.mono l2))⟩⟩
    | ref hk =>
      obtain ⟨z, ws, e1, hs, rr⟩ := lstOf_at g (.ref hk) hf
      exact ⟨z, ws, by rw [e1], .inl ⟨hs, fun l hl => by
        obtain ⟨g2, l2⟩ := g.newB (o := .tup ws) hl
        exact q _ ι _ _ l2 g2 (.tup (st_of upd_same) (rr.mono l2))⟩⟩
    | _ => cases hf
  · cases hf
/-- sorted of ints -/
def insI (k : Int) : List Int → List Int
  | [] => [k]
  | m :: ms => if k ≤ m then k :: m :: ms else m :: insI k ms
def sortI (ns : List Int) : List Int := ns.foldr insI []
theorem insI_perm (k : Int) : ∀ ms : List Int, (insI k ms).Perm (k :: ms)
  | [] => List.Perm.refl _
  | m :: ms => by
    unfold insI
    split
    · exact List.Perm.refl _
    · exact ((insI_perm k ms).cons m).trans (List.Perm.swap ..)
theorem sortI_perm : ∀ ns : List Int, (sortI ns).Perm ns
  | [] => List.Perm.refl _
  | n :: ns => (insI_perm n _).trans ((sortI_perm ns).cons n)
theorem insI_sorted (k : Int) : ∀ {ms : List Int}, ms.Pairwise (· ≤ ·) → (insI k ms).Pairwise (· ≤ ·)
  | [], _ => List.pairwise_singleton _ _
  | m :: ms, h => by
    have h' := List.pairwise_cons.mp h
    unfold insI
    split
    · rename_i hk
      exact List.pairwise_cons.mpr ⟨fun y hy => by
        rcases List.mem_cons.mp hy with rfl | hy
        · exact hk
        · exact Int.le_trans hk (h'.1 y hy), h⟩
    · rename_i hk
      refine List.pairwise_cons.mpr ⟨fun y hy => ?_, insI_sorted k h'.2⟩
      rcases List.mem_cons.mp ((insI_perm k ms).mem_iff.mp hy) with rfl | hy
      · omega
      · exact h'.1 y hy
theorem sortI_sorted : ∀ ns : List Int, (sortI ns).Pairwise (· ≤ ·)
  | [] => List.Pairwise.nil
  | n :: ns => insI_sorted n (sortI_sorted ns)
theorem sortI_uniq {ns ms : List Int} (hp : ms.Perm ns) (hs : ms.Pairwise (· ≤ ·)) : ms = sortI ns :=
  (hp.trans (sortI_perm ns).symm).eq_of_pairwise (fun a b _ _ h1 h2 => Int.le_antisymm h1 h2) hs (sortI_sorted ns)
def dSortI : Sto → List D → Option (List D) := fun A ds => match ds with | [d] => ((lstOf A d).bind intsOf).map fun ns => (sortI ns).map .int | _ => none
theorem opL_sortI : OpL X dSortI (rSortedI X.K) := by
  intro tb F B ι A H xs vs ds Q g rp hf q
  unfold dSortI at hf
  split at hf
  · obtain ⟨v, rfl, rv⟩ := repL_one rp
    simp only [Option.bind_eq_some_iff, Option.map_eq_some_iff] at hf
    obtain ⟨ns, ⟨ds', h1, h2⟩, rfl⟩ := hf
    obtain ⟨z, ws, rfl, hs, rl⟩ := lstOf_at g rv h1
    obtain ⟨e1, e2⟩ := ints_rep rl h2
    rw [e1] at hs
    exact ⟨z, ns, rfl, hs, fun ms l hp hs' hl => by rw [sortI_uniq hp hs']; exact q l _ hl (repL_ints _)⟩
  · cases hf

/-! ### slices of lists -/
abbrev MO := Env → Sto → Rz (Option Int)
def tMO (X : Cx) (W : Wt) (m : MO) : TO := fun σ H Q => ∃ ρ A F B ι, Good X.K X.mg W.tb F B ι A H ∧ EnvOk X.K B ι ρ σ ∧ Post X W σ F B ι (m ρ A) fun k A' => ∀ B' ι' H', Le B ι B' ι' → Good X.K X.mg W.tb F B' ι' A' H' → Q k H'
def SO (X : Cx) (W : Wt) (e : Option Expr) (m : MO) : Prop := PO X e (tMO X W m)
def oNo : MO := fun _ A => .ok none A
def oAt (m : ME) : MO := bd m fun d => op (match d with | .int k => some (some k) | _ => none)
theorem so_none : SO X W none oNo := ⟨fun pins s σ H Q I h => po_none.run pins s σ H Q I (by
  obtain ⟨ρ, A, F, B, ι, g, ev, q⟩ := h
  exact q B ι H Le.refl g)⟩
theorem so_some (h : SE X W e ma) : SO X W (some e) (oAt ma) := ⟨fun pins s σ H Q I hh => (po_some h).run pins s σ H Q I (by
  obtain ⟨ρ, A, F, B, ι, g, ev, q⟩ := hh
  refine ⟨ρ, A, F, B, ι, g, ev, q.bind.imp fun d A1 q1 B1 ι1 H1 v l1 g1 r1 => ?_⟩
  obtain ⟨k, hk, q2⟩ := q1.opt
  cases d <;> simp at hk
  subst hk
  cases r1
  exact ⟨_, rfl, q2 B1 ι1 H1 l1 g1⟩)⟩
def cutD (ds : List D) (lo hi : Option Int) : List D := (ds.drop (HT.sIx ds.length 0 lo)).take (HT.sIx ds.length ds.length hi - HT.sIx ds.length 0 lo)
theorem cut_rep {K : PySem.W.Frag} {B : Hp} {ι : List Addr} {ds : List D} {vs : List V} {lo hi : Option Int} (r : RepL K B ι ds vs) : RepL K B ι (cutD ds lo hi) (cutV vs lo hi) := by
  unfold cutV cutD
  rw [r.length]
  exact (r.drop _).take _
def mSlL (m : ME) (lo hi : MO) : MA := bd m fun d => bd lo fun l => bd hi fun h => rd fun A => (lstOf A d).map fun ds => cutD ds l h
theorem sl_sliceL {lo hi : Option Expr} {ml mh : MO} {p2 : Pos} (he : SE X W e ma) (hl : SO X W lo ml) (hh : SO X W hi mh) : SL X W (.Subscript e (.Slice lo hi none p2) pos) (mSlL ma ml mh) := (pe_slice sl_list he hl hh).to fun σ H Q q => by
  obtain ⟨ρ, A, F, B, ι, g, ev, q⟩ := q
  refine ⟨ρ, A, F, B, ι, g, ev, q.bind.imp fun d A1 q1 B1 ι1 H1 v l1 g1 r1 => ⟨ρ, A1, F, B1, ι1, g1, ev.mono l1, (Post.bind q1).mono l1 fun l A2 q2 B2 ι2 H2 l2 g2 => ⟨ρ, A2, F, B2, ι2, g2, (ev.mono l1).mono l2, (Post.bind q2).mono (l1.trans l2) fun h A3 q3 B3 ι3 H3 l3 g3 => ?_⟩⟩⟩
  obtain ⟨ds, hd, q4⟩ := q3.rd
  simp only [Option.map_eq_some_iff] at hd
  obtain ⟨es, h1, rfl⟩ := hd
  obtain ⟨z, vs, rfl, hs, rl⟩ := lstOf_at g3 (r1.mono (l2.trans l3)) h1
  exact ⟨z, vs, rfl, hs, fun q' hq => q4 B3 ι3 _ q' _ ((l1.trans l2).trans l3) (g3.grow (Ex.new hq)) upd_same (fresh_back g3.ex hq) (fresh_back g3.fr hq) (g3.fresh hq) (cut_rep rl)⟩

/-! ### stores into lists -/
def setA (A : Sto) (x k y : D) : Option Sto := match x, k with
  | .ref n, .int j => match A[n]? with
    | some (.lst ds) => (ixN ds.length j).map fun t => A.set n (.lst (ds.set t y))
    | _ => none
  | _, _ => none
def sSub (mv mo mi : ME) : MS := bS mv fun y => bS mo fun x => bS mi fun k => stO fun A => setA A x k y
theorem ss_sub {pos' : Pos} (ho : SE X W o mo) (hi : SE X W i mi) (he : SE X W e mv) (ha : ∀ v, assign (.Subscript o i pos') X.env v = (holding [v] (eval o X.env) >>= fun ov => holding [v, ov] (eval i X.env) >>= fun iv => standAt pos' >>= fun _ => holding [v, ov, iv] (setItem ov iv v) >>= fun _ => release [v, ov, iv] []) := by intro _; rfl)
    (hs : swapsWithSole [.Subscript o i pos'] e pos.line X.env = pure false := by rfl) (hw : swappedStores [.Subscript o i pos'] e X.env = pure none := by rfl) (h1 : (assignEach [.Subscript o i pos'] X.env).map (·.2) = [assign (.Subscript o i pos') X.env] := by rfl) :
    SS X W (.Assign [.Subscript o i pos'] e pos) (sSub mv mo mi) := (ps_asg he (pg_sub ho hi set_list ha) hs hw h1).to fun D σ H ⟨ρ, A, F, B, ι, g, ev, q⟩ =>
  ⟨ρ, A, F, B, ι, g, ev, (PostS.bind ev q).imp fun y A1 q1 B1 ι1 H1 u l1 g1 ry => ⟨ρ, A1, F, B1, ι1, g1, ev.mono l1, (PostS.bind (ev.mono l1) (PostS.mono l1 q1)).imp fun d A2 q2 B2 ι2 H2 v l2 g2 r2 =>
    ⟨ρ, A2, F, B2, ι2, g2, (ev.mono l1).mono l2, (PostS.bind ((ev.mono l1).mono l2) (PostS.mono l2 q2)).imp fun k A3 q3 B3 ι3 H3 w l3 g3 r3 => by
    have q3 : PostS X W F B2 ι2 (stO (fun A => setA A d k y) ρ A3) D := q3
    unfold stO at q3
    cases hp : setA A3 d k y with
    | none => simp only [hp] at q3; exact q3.elim
    | some A4 =>
      simp only [hp] at q3
      unfold setA at hp
      split at hp
      · rename_i n j
        cases hA : A3[n]? with
        | none => rw [hA] at hp; cases hp
        | some z =>
          rw [hA] at hp
          cases z with
          | lst ds =>
            simp only [Option.map_eq_some_iff] at hp
            obtain ⟨t, ht, rfl⟩ := hp
            cases r3
            cases r2.mono l3 with
            | @ref _ a hi' =>
            obtain ⟨vs, e1, rl⟩ := g3.obj n a _ hi' hA
            refine ⟨a, vs, j, t, rfl, rfl, e1, by rw [rl.length]; exact ht, q3 B3 ι3 _ σ l3 ?_ (((ev.mono l1).mono l2).mono l3)⟩
            exact g3.wr hi' hA rfl ⟨_, upd_same, RepL.set (ry.mono (l2.trans l3)) t rl⟩
          | _ => cases hp
      · cases hp⟩⟩⟩

/-! ### walks -/
theorem walk_list {tb : Tb} {F B H : Hp} {ι : List Addr} {A : Sto} {q : Addr} {vs : List V} {ds : List D} (hs : SqL X.K B q vs) (rl : RepL X.K B ι ds vs) (uniq : ∀ {H' : Hp} {us : List V}, SqL X.K H' q vs → SqL X.K H' q us → ∀ {k : Nat} {v : V}, vs[k]? = some v → True) : True := trivial
/-- over a known list, a known tuple -/
def seqB (d : D) : Option (List D) := match d with
  | .lst ds => some ds
  | _ => none
def mIt (f : D → Option (List D)) (m : ME) : MA := bd m fun d => op (f d)
def tupB (d : D) : Option (List D) := match d with
  | .tup ds => some ds
  | _ => none
theorem walkD_list {B : Hp} {ι : List Addr} {q : Addr} {vs : List V} {ds : List D} (hs : SqL X.K B q vs) (rl : RepL X.K B ι ds vs) : WalkD X B ι (Itl X.K q) ds where
  go := fun i l g hi => by
    obtain ⟨v, h1, _⟩ := rl.get (List.getElem?_eq_getElem hi)
    exact ⟨vs, v, ex_l (l.ex.trans g.ex) hs, h1⟩
  stop := fun i l g hi => ⟨vs, ex_l (l.ex.trans g.ex) hs, by rw [rl.length]; exact hi⟩
  yld := fun i x H'' d l g hd hy => by
    obtain ⟨e, hx⟩ := hy
    subst e
    obtain ⟨v, h1, h2⟩ := rl.get hd
    have := hx vs (ex_l (l.ex.trans g.ex) hs)
    rw [h1] at this
    cases this
    exact ⟨_, Le.refl, g, h2.mono l⟩
theorem walkD_tup {B : Hp} {ι : List Addr} {q : Addr} {vs : List V} {ds : List D} (hs : SqT X.K B q vs) (rl : RepL X.K B ι ds vs) : WalkD X B ι (Itt X.K q) ds where
  go := fun i l g hi => by
    obtain ⟨v, h1, _⟩ := rl.get (List.getElem?_eq_getElem hi)
    exact ⟨vs, v, ex_t (l.ex.trans g.ex) hs, h1⟩
  stop := fun i l g hi => ⟨vs, ex_t (l.ex.trans g.ex) hs, by rw [rl.length]; exact hi⟩
  yld := fun i x H'' d l g hd hy => by
    obtain ⟨e, hx⟩ := hy
    subst e
    obtain ⟨v, h1, h2⟩ := rl.get hd
    have := hx vs (ex_t (l.ex.trans g.ex) hs)
    rw [h1] at this
    cases this
    exact ⟨_, Le.refl, g, h2.mono l⟩
theorem si_list (h : SE X W iter ma) : SI X W tg iter (mIt seqB ma) := (pi_list h).to fun σ H R q => by
  obtain ⟨ρ, A, F, B, ι, g, ev, q⟩ := q
  refine ⟨ρ, A, F, B, ι, g, ev, q.bind.imp fun d A1 q1 B1 ι1 H1 v l1 g1 r1 => ?_⟩
  obtain ⟨ds, hd, q2⟩ := q1.opt
  cases r1 with
  | lst hv rl => cases hd; exact ⟨_, rfl, ⟨_, ex_l g1.ex hv⟩, q2 B1 ι1 H1 _ l1 g1 (walkD_list hv rl)⟩
  | _ => cases hd
theorem si_tup (h : SE X W iter ma) : SI X W tg iter (mIt tupB ma) := (pi_tup h).to fun σ H R q => by
  obtain ⟨ρ, A, F, B, ι, g, ev, q⟩ := q
  refine ⟨ρ, A, F, B, ι, g, ev, q.bind.imp fun d A1 q1 B1 ι1 H1 v l1 g1 r1 => ?_⟩
  obtain ⟨ds, hd, q2⟩ := q1.opt
  cases r1 with
  | tup hv rl => cases hd; exact ⟨_, rfl, ⟨_, ex_t g1.ex hv⟩, q2 B1 ι1 H1 _ l1 g1 (walkD_tup hv rl)⟩
  | _ => cases hd
def rngD (lo : Int) : Nat → List D
  | 0 => []
  | n + 1 => .int lo :: rngD (lo + 1) n
theorem rngD_len : ∀ (n : Nat) (lo : Int), (rngD lo n).length = n
  | 0, _ => rfl
  | n + 1, lo => by simp [rngD, rngD_len n]
theorem rngD_at : ∀ (n : Nat) (lo : Int) (k : Nat), k < n → (rngD lo n)[k]? = some (.int (lo + k))
  | 0, _, _, h => by omega
  | n + 1, lo, 0, _ => by simp [rngD]
  | n + 1, lo, k + 1, h => by
    simp only [rngD, List.getElem?_cons_succ]
    rw [rngD_at n (lo + 1) k (by omega)]
    congr 2
    omega
theorem walkD_rng {B : Hp} {ι : List Addr} {lo : Int} {n : Nat} : WalkD X B ι (Itr lo n) (rngD lo n) where
  go := fun i l g hi => by rw [rngD_len] at hi; exact hi
  stop := fun i l g hi => by rw [rngD_len] at hi; exact hi
  yld := fun i x H'' d l g hd hy => by
    obtain ⟨e, hx⟩ := hy
    subst e
    have hi : i < n := by have := (List.getElem?_eq_some_iff.mp hd).1; rw [rngD_len] at this; exact this
    rw [rngD_at n lo i hi] at hd
    cases hd
    subst hx
    exact ⟨_, Le.refl, g, .int⟩
/-- small enough to be walked over -/
def smI (j : Int) : Bool := decide (j.natAbs ≤ 1000000000000)
theorem smI.le {j : Int} (h : smI j = true) : -(2 ^ 62) ≤ j ∧ j < 2 ^ 62 := by
  unfold smI at h
  have := of_decide_eq_true h
  omega
def rng1 (ds : List D) : Option (List D) := match ds with
  | [.int j] => if smI j then some (rngD 0 j.toNat) else none
  | _ => none
def rng2 (ds : List D) : Option (List D) := match ds with
  | [.int i, .int j] => if smI i && smI j then some (rngD i (j - i).toNat) else none
  | _ => none
def mItN (f : List D → Option (List D)) (m : MA) : MA := bd m fun d => op (f d)
theorem si_rng1 {mr : MA} (hg : Gl X "range") (hm : X.mg "range" = none) (ha : SA X W [a] mr) (hs : starEach [a] X.env = [(false, eval a X.env)] := by rfl) : SI X W tg (.Call (.Name "range" p) [a] [] pos) (mItN rng1 mr) := (pi_range1 hg hm ha hs).to fun σ H R q => by
  obtain ⟨ρ, A, F, B, ι, g, ev, q⟩ := q
  refine ⟨ρ, A, F, B, ι, g, ev, q.bind.imp fun ds A1 q1 B1 ι1 H1 vs l1 g1 r1 => ?_⟩
  obtain ⟨es, hd, q2⟩ := q1.opt
  unfold rng1 at hd
  split at hd
  · obtain ⟨h1, rfl⟩ := ite_some hd
    obtain ⟨v, rfl, rv⟩ := repL_one r1
    cases rv
    exact ⟨_, rfl, (smI.le h1).1, (smI.le h1).2, q2 B1 ι1 H1 _ l1 g1 walkD_rng⟩
  · cases hd
theorem si_rng2 {mr : MA} (hg : Gl X "range") (hm : X.mg "range" = none) (ha : SA X W [a, b] mr) (hs : starEach [a, b] X.env = [(false, eval a X.env), (false, eval b X.env)] := by rfl) (hs2 : starEach [b] X.env = [(false, eval b X.env)] := by rfl) :
    SI X W tg (.Call (.Name "range" p) [a, b] [] pos) (mItN rng2 mr) := (pi_range2 hg hm ha hs hs2).to fun σ H R q => by
  obtain ⟨ρ, A, F, B, ι, g, ev, q⟩ := q
  refine ⟨ρ, A, F, B, ι, g, ev, q.bind.imp fun ds A1 q1 B1 ι1 H1 vs l1 g1 r1 => ?_⟩
  obtain ⟨es, hd, q2⟩ := q1.opt
  unfold rng2 at hd
  split at hd
  · obtain ⟨h1, rfl⟩ := ite_some hd
    simp only [Bool.and_eq_true] at h1
    cases r1 with
    | cons h r =>
      obtain ⟨v, rfl, rv⟩ := repL_one r
      cases h; cases rv
      exact ⟨_, _, rfl, ⟨(smI.le h1.1).1, (smI.le h1.1).2, (smI.le h1.2).1, (smI.le h1.2).2⟩, q2 B1 ι1 H1 _ l1 g1 walkD_rng⟩
  · cases hd
/-- enumerate of a known list -/
def enumD : Nat → List D → List D
  | _, [] => []
  | k, d :: ds => .tup [.int k, d] :: enumD (k + 1) ds
theorem enumD_at : ∀ (ds : List D) (k i : Nat), (enumD k ds)[i]? = (ds[i]?).map fun d => .tup [.int ((k + i : Nat) : Int), d]
  | [], _, _ => by simp [enumD]
  | d :: ds, k, 0 => by simp [enumD]
  | d :: ds, k, i + 1 => by
    simp only [enumD, List.getElem?_cons_succ]
    rw [enumD_at ds (k + 1) i]
    congr 1
    funext d'
    congr 3
    omega
theorem enumD_len : ∀ (ds : List D) (k : Nat), (enumD k ds).length = ds.length
  | [], _ => rfl
  | d :: ds, k => by simp [enumD, enumD_len ds]
theorem walkD_enum {B : Hp} {ι : List Addr} {q : Addr} {vs : List V} {ds : List D} (hs : SqL X.K B q vs) (rl : RepL X.K B ι ds vs) : WalkD X B ι (Ite X.K q) (enumD 0 ds) where
  go := fun i l g hi => by
    rw [enumD_len] at hi
    obtain ⟨v, h1, _⟩ := rl.get (List.getElem?_eq_getElem hi)
    exact ⟨vs, v, ex_l (l.ex.trans g.ex) hs, h1⟩
  stop := fun i l g hi => ⟨vs, ex_l (l.ex.trans g.ex) hs, by rw [rl.length, ← enumD_len ds 0]; exact hi⟩
  yld := fun i x H'' d l g hd hy => by
    obtain ⟨T, y, rfl, hT, rfl, hx⟩ := hy
    rw [enumD_at] at hd
    simp only [Option.map_eq_some_iff] at hd
    obtain ⟨d', h1, rfl⟩ := hd
    obtain ⟨v, h2, h3⟩ := rl.get h1
    have := hx vs (ex_l (l.ex.trans g.ex) hs)
    rw [h2] at this
    cases this
    obtain ⟨g2, l2⟩ := g.newB (o := .tup [.int (i : Nat), y]) hT
    refine ⟨_, l2, g2, .tup (st_of upd_same) (.cons ?_ (.cons ((h3.mono l).mono l2) .nil))⟩
    rw [Nat.zero_add]
    exact .int
theorem si_enum {elts : List Expr} {kk : Nat} {tpos : Pos} (hg : Gl X "enumerate") (hm : X.mg "enumerate" = none) (ha : SE X W e ma) (hs : starEach [e] X.env = [(false, eval e X.env)] := by rfl) (hs' : starEach [e] X.env = (false, eval e X.env) :: starEach [] X.env := by rfl) :
    SI X W (.Tuple elts kk tpos) (.Call (.Name "enumerate" p) [e] [] pos) (mIt (fun d => (seqB d).map (enumD 0)) ma) := (pi_enum hg hm (sa_cons ha sa_nil hs') hs).to fun σ H R q => by
  obtain ⟨ρ, A, F, B, ι, g, ev, q⟩ := q
  refine ⟨ρ, A, F, B, ι, g, ev, ?_⟩
  have q := q.bind
  unfold aCons bd
  cases hm : ma ρ A with
  | exc c A1 => rw [hm] at q; exact q
  | no => rw [hm] at q; exact q.elim
  | ok d A1 =>
    rw [hm] at q
    intro B1 ι1 H1 vs l1 g1 r1
    obtain ⟨ds, hd, q2⟩ := Post.opt (X := X) (W := W) q
    simp only [Option.map_eq_some_iff] at hd
    obtain ⟨es, hes, rfl⟩ := hd
    obtain ⟨v, rfl, rv⟩ := repL_one r1
    cases rv with
    | lst hv rl => cases hes; exact ⟨_, _, rfl, ex_l g1.ex hv, q2 B1 ι1 H1 _ l1 g1 (walkD_enum hv rl)⟩
    | _ => cases hes
end
end Sm

set_option Elab.async false
set_option linter.all false
set_option autoImplicit false
set_option maxRecDepth 100000
set_option maxHeartbeats 2000000
/-! Sm9: any and all of a generator expression, whatever is walked and whatever is asked of each item. -/
namespace Sm
open PySem L2 Evl PyProof.Rows
abbrev gEnv (X : Cx) (scope : Scope) (L : Addr) (code : Value) : PySem.Env := genEnv scope (cloFrom X.env.cells scope.names []) L code builtinsNs X.env
/-- the generator's own frame runs over the frames of X -/
def genCx (X : Cx) (A : Around) (s : Shared) (H : Hp) (scope : Scope) (L : Addr) (code : Value) (fp : List Addr) : Cx where
  prog := X.prog
  w := X.w
  K := X.K
  mg := X.mg
  base := X.base
  A := A
  N := X.N
  s_0 := s
  H_0 := H
  env := gEnv X scope L code
  outer := X.stack
  stack := gEnv X scope L code :: X.stack
  ex := fp
  fn := fun _ => false
  calm := true
  pn := []
  xe := fun _ _ => False
theorem clo_at {cells : List (Str × Addr)} {names : List (Str × NameKind)} (hf : ∀ y ∈ names, y.2 = .free → ∃ c, cells.lookup y.1 = some c) {y : Str} {c : Addr} (e : (cloFrom cells names []).lookup y = some c) : cells.lookup y = some c := by
  rcases cloFrom_mem (PySem.mem_of_lookup e) with q | ⟨q1, q2⟩
  · cases q
  · obtain ⟨d, hd⟩ := hf _ q1 rfl
    have hd : cells.lookup y = some d := hd
    rw [q2, hd]
    rfl
theorem gen_start {X : Cx} {pins : List (Addr × Obj)} {σ : L2.St} {H : Hp} {s : Shared} {A : Around} {scope : Scope} {own : List (Str × Nat)} {fp : List Addr} {code : Value} {h1 : Heap} {tk : Nat} {gs : Array GenState} {m : Str → Option Value}
    (I : Inv X pins σ H s) (ok : BlkOk X.N X.env.scope scope own) (nc : ∀ y ∈ scope.names, y.2 ≠ .cell) (hN : X.N.Nodup) (hfp : ∀ b ∈ fp, FpOk X pins H b ∧ b < s.heap.objs.size)
    (frA : A.frames = some (gEnv X scope s.heap.objs.size code :: X.stack)) (hdA : A.handled = none) (kp : ∀ b o, s.heap.get? b = some o → h1.get? b = some o) (hns : h1.Ns s.heap.objs.size m) (hb : AllBare gs) :
    Inv (genCx X A s H scope s.heap.objs.size code fp) [] (L2.wipe σ (own.map (·.2))) H { s with heap := h1, gens := gs, toks := tk } := by
  have hfree : ∀ y ∈ scope.names, y.2 = .free → ∃ c, X.env.cells.lookup y.1 = some c := fun y hy e => (ok.free y hy e).elim (fun k => I.ok.has _ (.inl k)) fun k => I.ok.has _ (.inr k)
  have cm : ∀ {y c}, (cloFrom X.env.cells scope.names []).lookup y = some c → X.env.cells.lookup y = some c := fun e => clo_at hfree e
  have look : ∀ {y}, scope.names.lookup y = some .free → ∃ c, (cloFrom X.env.cells scope.names []).lookup y = some c := fun {y} hl => by
    have hy : (y, NameKind.free) ∈ scope.names := PySem.mem_of_lookup hl
    exact mem_lookup (cloFrom_has (cells := X.env.cells) (acc := []) hy)
  have nocell : ∀ {y}, scope.names.lookup y ≠ some .cell := fun {y} e => nc _ (PySem.mem_of_lookup e) rfl
  have okG : (genCx X A s H scope s.heap.objs.size code fp).Ok := by
    refine ⟨I.ok.mod, ok.kind, I.ok.glob, rfl, Nat.le_refl _, fun y z c e1 e2 => I.ok.inj y z c (cm e1) (cm e2), fun y hy => ?_, fun y c z _ => ?_, fun _ => hdA, frA, .inr ⟨rfl, rfl⟩, fun b hb' => ⟨Nat.ne_of_lt (hfp b hb').2, fun y c e => (hfp b hb').1.2.2.2.2.1 y c (cm e)⟩,
      I.bs, Nat.le_trans I.ok.bsz I.sz, fun b o e hb' => ?_, fun b hb' z => ?_, I.stack, I.stkFree⟩
    · have hy : scope.names.lookup y = some .cell ∨ scope.names.lookup y = some .free := hy
      exact hy.elim (fun z => (nocell z).elim) fun z => look z
    · cases (show false = true from z)
    · rcases (hfp b hb').1.2.2.2.1 with z | z
      · exact I.ok.noex b o e z
      · exact absurd (Nat.lt_of_lt_of_le (Heap.lt_size e) (Nat.le_trans I.ok.bsz z)) (Nat.lt_irrefl _)
    · rcases List.mem_cons.mp (I.stkSub b z) with z | z
      · exact (hfp b hb').1.2.1 z
      · exact (hfp b hb').1.2.2.1 z
  refine ⟨okG, rfl, hb, Un.kept kp, ⟨m, hns, fun i y av e1 e2 e3 => ?_⟩, fun y c e => ?_, I.hok.fresh (Nat.le_refl _), fun y c e => I.freeC y c (cm e), fun p hp => absurd (show p ∈ ([] : List (Addr × Obj)) ++ [] from hp) (by simp), I.hok.kept kp, by rw [wipe_length]; exact I.len⟩
  · obtain ⟨e2, hne⟩ := wipe_some e2
    have e3 : Vis scope y := e3
    have hfr : scope.names.lookup y = some .free := by
      rcases e3 with k | k | k
      · exfalso
        rcases ok.own _ (PySem.mem_of_lookup k) (.inl rfl) with e' | e'
        · obtain ⟨p, hp, hpy⟩ := List.mem_map.mp e'
          have e4 := ok.ix p hp
          have hpy : p.1 = y := hpy
          rw [hpy] at e4
          exact hne (List.mem_map.mpr ⟨p, hp, nodup_ix hN e4 e1⟩)
        · exact e' (List.mem_of_getElem? e1)
      · exact (nocell k).elim
      · exact k
    obtain ⟨m', hn, hl⟩ := I.loc
    have hvis : Vis X.env.scope y := (ok.free _ (PySem.mem_of_lookup hfr) rfl).elim (fun k => .inr (.inl k)) (fun k => .inr (.inr k))
    obtain ⟨u, r, q⟩ := hl i y av e1 e2 hvis
    obtain ⟨c, h2⟩ := look hfr
    refine ⟨u, r, .inr ⟨.inr hfr, c, h2, ?_⟩⟩
    rcases q with ⟨k, _⟩ | ⟨_, c', e', z⟩
    · have k : X.env.scope.names.lookup y = some .local := k
      rcases ok.free _ (PySem.mem_of_lookup hfr) rfl with k' | k' <;> rw [show X.env.scope.names.lookup y = _ from k'] at k <;> cases k
    · rw [cm h2] at e'
      cases e'
      exact z.keeps kp
  · obtain ⟨u, z⟩ := I.cell y c (cm e)
    exact ⟨u, z.keeps kp⟩

/-! ### the generator's turns -/
/-- what stands between two turns -/
structure AtRest (Z : Cx) (pl : List (Addr × Obj)) (T : Nat → Heap → Prop) (fp : List Addr) (i : Nat) (σ : L2.St) (H : Hp) (s : Shared) : Prop where
  inv : Inv Z pl σ H s
  turn : T i s.heap
  fp : ∀ b ∈ fp, H b = none
/-- woken: nothing but tokens and the generators' table has changed -/
structure Woke (s s' : Shared) : Prop where
  heap : s'.heap = s.heap
  os : s'.os = s.os
  bare : AllBare s'.gens
theorem AtRest.woke {Z : Cx} {pl : List (Addr × Obj)} {T : Nat → Heap → Prop} {fp : List Addr} {i : Nat} {σ : L2.St} {H : Hp} {s s' : Shared} (a : AtRest Z pl T fp i σ H s) (k : Woke s s') : AtRest Z pl T fp i σ H s' := by
  obtain ⟨h', g', d', t', o'⟩ := s'
  obtain ⟨k1, k2, k3⟩ := k
  simp only at k1 k2 k3
  subst k1 k2
  refine ⟨?_, a.turn, a.fp⟩
  refine a.inv.step (h' := s.heap) (g' := g') (t' := t') (d' := d') (ch := []) (fun b z => absurd z (by simp)) (fun b o _ _ _ e _ => e) (fun b o _ _ _ e _ => ⟨o.slots, e⟩) (fun b o _ _ n => n) (fun b o _ e => ⟨o, e⟩) (fun _ _ e => e) (fun _ _ _ e => e) (fun b ps e => ⟨#[], by rw [e]; simp⟩) (fun m hm => hm) a.inv.hok k3
/-- what the consumer wants of the items: W by turn and measure, Yes when it may stop, No at the end -/
structure Wish (Z : Cx) (J : It) (g : TG) (tt : TT) (te : TE) (vs : List Nat) (σ0 : L2.St) (un : Bool) (W : Nat → Nat → Hp → Prop) (Yes No : Hp → Prop) : Prop where
  go : ∀ i m H, W i m H → (J.stop i H ∧ No H) ∨ (J.go i H ∧ ∃ Nx : Hp → Prop, (∀ H', Nx H' → ∃ m', m' < m ∧ W (i + 1) m' H') ∧ ∀ x H', J.yld i H x H' → g x (L2.wipe σ0 vs) H' fun σ2 H2 => L2.wipe σ2 vs = L2.wipe σ0 vs ∧ tt σ2 H2 fun b H3 =>
    if b = true then te σ2 H3 fun y H4 => ∃ c, y = .bl c ∧ (if c = un then Yes H4 else Nx H4) else Nx H3)
section
variable {Z : Cx} {pl : List (Addr × Obj)} {J : It} {g : TG} {tt : TT} {te : TE} {vs : List Nat} {σ0 : L2.St} {un : Bool} {W : Nat → Nat → Hp → Prop} {Yes No : Hp → Prop} {fp : List Addr} {it : Addr} {T : Nat → Heap → Prop} {tg elt iter : Expr} {ifs : List Expr} {scope : Scope} {pos : Pos}
/-- what is handed out: a bool; if it isn't the last wanted the generator goes on from there -/
def GYa (Z : Cx) (pl : List (Addr × Obj)) (T : Nat → Heap → Prop) (fp : List Addr) (un : Bool) (W : Nat → Nat → Hp → Prop) (Yes : Hp → Prop) (σ0 : L2.St) (vs : List Nat) : Protocol := fun n s₀ v s kap =>
  ∃ (c : Bool) (i : Nat) (H : Hp), v = .bool c ∧ (∃ σ, AtRest Z pl T fp i σ H s) ∧ (c = un → Yes H) ∧ (c ≠ un → ∀ s', Woke s s' → kap (.send .none) s')
def GRa (Z : Cx) (pl : List (Addr × Obj)) (No : Hp → Prop) : Nat → Shared → Shared → Prop := fun _ _ s => ∃ σ H, Inv Z pl σ H s ∧ No H
theorem seg_gen {A : Around} (hA : A.over (.compLoop (.GeneratorExp elt [⟨tg, iter, ifs, 0⟩] scope pos) 0 (.ref it) .none Z.env) [] = Z.A) (hc : Z.calm = true) (hco : Z.env.scope.isCoroutine = false) (hxe : Z.xe = fun _ _ => False)
    (Tn : Turn Z.prog Z.w Z.K tg J fp it T) (hst : ∀ σ H s, (∀ b ∈ fp, H b = none) → Inv Z pl σ H s → ∀ b ∈ fp, FpOk Z pl H b) (hg : PG Z tg g) (ht : PTs Z ifs tt) (he : PE Z elt te) (wi : Wish Z J g tt te vs σ0 un W Yes No) :
    ∀ (m n i : Nat) (σ : L2.St) (H : Hp) (s₀ s : Shared), m < n → W i m H → AtRest Z pl T fp i σ H s → L2.wipe σ vs = L2.wipe σ0 vs → 
      Seg (model Z.prog Z.w) A (fun n s₀ r s₁ => r = .ok .next ∧ GRa Z pl No n s₀ s₁) (GYa Z pl T fp un W Yes σ0 vs) n s₀ (.compLoop (.GeneratorExp elt [⟨tg, iter, ifs, 0⟩] scope pos) 0 (.ref it) .none Z.env)
        ((model Z.prog Z.w).den (.compLoop (.GeneratorExp elt [⟨tg, iter, ifs, 0⟩] scope pos) 0 (.ref it) .none Z.env)) [] s := by
  intro m
  induction m using Nat.strongRecOn with
  | ind m ih =>
    intro n i σ H s₀ s hmn hw ar hwp
    have I0 : Inv Z pl (L2.wipe σ0 vs) H s := by
      rw [← hwp]
      exact ar.inv.weak (wipe_length _ _) fun i v e => (wipe_some e).1
    show Seg _ A _ _ _ s₀ _ ((compTurn (.GeneratorExp elt [⟨tg, iter, ifs, 0⟩] scope pos) 0 (.ref it) .none Z.env).onRaise (leaving Z.env)) [] s
    rw [compTurn_gen, Sem.onRaise_eq_wrap]
    refine seg_bind_wrap (wpAny_standAt ?_)
    rcases wi.go i m H hw with ⟨stop, hno⟩ | ⟨go, Nx, hNx, step⟩
    · refine seg_bind_wrap ?_
      rw [hA]
      refine Tn.done Z rfl rfl rfl hc i pl s (L2.wipe σ0 vs) H _ I0 (hst _ H s ar.fp I0) ar.turn stop |> fun z => thn z fun r s1 q => ?_
      obtain ⟨hr, I1⟩ := q
      subst hr
      exact seg_end (.ok .next) ⟨rfl, _, H, I1, hno⟩
    · refine seg_bind_wrap ?_
      rw [hA]
      refine thn (Tn.item Z rfl rfl rfl hc i pl s (L2.wipe σ0 vs) H _ I0 (hst _ H s ar.fp I0) ar.turn go) fun r s1 q => ?_
      obtain ⟨u, hr, h1⟩ := q
      subst hr
      refine seg_bind_wrap ?_
      rw [hA]
      refine thn h1 fun _ s2 q2 => ?_
      obtain ⟨x, H2, I2, r2, y2, t2, f2⟩ := q2
      have I2' := I2.pinned (hst _ H2 s2 f2 I2) (Tn.obj _ _ t2)
      refine seg_bind_wrap ?_
      rw [hA]
      refine wpAny_mono (hg.run _ s2 _ H2 x u _ I2' r2 (step x H2 y2)) (fun _ s3 q3 => ?_) fun e s3 z => ?_
      · obtain ⟨σ3, H3, I3, hwp3, q3⟩ := q3
        refine seg_bind_wrap ?_
        rw [hA]
        refine wpAny_mono (ht.run _ s3 σ3 H3 _ I3 q3) (fun b s4 q4 => ?_) fun e s4 z => ?_
        · obtain ⟨H4, I4, q4⟩ := q4
          -- the iterator's objects are as they were
          have rest : ∀ {σ' : L2.St} {H' : Hp} {s' : Shared}, Inv Z (pl ++ pinsAt fp s2.heap) σ' H' s' → AtRest Z pl T fp (i + 1) σ' H' s' := fun {σ' H' s'} I' =>
            ⟨I'.unpinned, Tn.keep _ _ _ t2 fun b hb o e => (I'.pin (b, o) (List.mem_append_right _ (List.mem_append_right _ (mem_pinsAt hb e)))).1, fun b hb => by
              obtain ⟨o, e, d⟩ := Tn.obj _ _ t2 b hb
              exact (I'.pin (b, o) (List.mem_append_right _ (List.mem_append_right _ (mem_pinsAt hb e)))).2.1⟩
          cases b with
          | false =>
            rw [if_neg (by decide)] at q4
            obtain ⟨m', hm', hw'⟩ := hNx H4 q4
            simp only [Bool.false_eq_true, if_false]
            exact seg_again rfl (ih m' hm' n (i + 1) σ3 H4 s₀ s4 (by omega) hw' (rest I4) hwp3)
          | true =>
            rw [if_pos rfl] at q4
            simp only [if_true]
            have hy : ∀ v, yieldOut Z.env v = yieldValue v := fun v => by simp only [yieldOut, hco, Bool.false_eq_true, if_false]
            simp only [hy]
            rw [Sem.bind_eq_wrap', Sem.bind_eq_wrap', Sem.wrap_wrap, Sem.wrap_wrap]
            refine seg_wrap ?_
            rw [hA]
            refine wpAny_mono (he.run _ s4 σ3 H4 _ I4 q4) (fun v s5 q5 => ?_) fun e s5 z => ?_
            · obtain ⟨y, H5, I5, r5, c, ey, q5⟩ := q5
              subst ey
              cases r5
              obtain ⟨n', rfl⟩ : ∃ n', n = n' + 1 := ⟨n - 1, by omega⟩
              refine seg_at (seg_yield rfl rfl rfl ⟨c, i + 1, H5, rfl, ⟨σ3, rest I5⟩, fun hcu => by rw [if_pos hcu] at q5; exact q5, fun hcu s' hk => ?_⟩)
              rw [if_neg hcu] at q5
              obtain ⟨m', hm', hw'⟩ := hNx H5 q5
              exact seg_again rfl (ih m' hm' n' (i + 1) σ3 H5 s' s' (by omega) hw' ((rest I5).woke hk) hwp3)
            · rw [hxe] at z; exact z.elim
        · rw [hxe] at z; exact z.elim
      · rw [hxe] at z; exact z.elim
theorem seg_start {A : Around} (hA : A.over (.compLoop (.GeneratorExp elt [⟨tg, iter, ifs, 0⟩] scope pos) 0 (.ref it) .none Z.env) [] = Z.A) (hA0 : A.over (.compStart (.GeneratorExp elt [⟨tg, iter, ifs, 0⟩] scope pos) 0 (.ref it) .none Z.env) [] = Z.A) (hc : Z.calm = true) (hco : Z.env.scope.isCoroutine = false) (hxe : Z.xe = fun _ _ => False)
    (Tn : Turn Z.prog Z.w Z.K tg J fp it T) (hst : ∀ σ H s, (∀ b ∈ fp, H b = none) → Inv Z pl σ H s → ∀ b ∈ fp, FpOk Z pl H b) (hg : PG Z tg g) (ht : PTs Z ifs tt) (he : PE Z elt te) (wi : Wish Z J g tt te vs σ0 un W Yes No)
    {m n i : Nat} {σ : L2.St} {H : Hp} {s₀ s : Shared} (hmn : m < n) (hw : W i m H) (ar : AtRest Z pl T fp i σ H s) (hwp : L2.wipe σ vs = L2.wipe σ0 vs) :
      Seg (model Z.prog Z.w) A (fun n s₀ r s₁ => r = .ok .next ∧ GRa Z pl No n s₀ s₁) (GYa Z pl T fp un W Yes σ0 vs) n s₀ (.compStart (.GeneratorExp elt [⟨tg, iter, ifs, 0⟩] scope pos) 0 (.ref it) .none Z.env)
        ((model Z.prog Z.w).den (.compStart (.GeneratorExp elt [⟨tg, iter, ifs, 0⟩] scope pos) 0 (.ref it) .none Z.env)) [] s := by
  have loop := seg_gen (elt := elt) (iter := iter) (scope := scope) (pos := pos) hA hc hco hxe Tn hst hg ht he wi m n i σ H s₀ s hmn hw ar hwp
  show Seg _ A _ _ _ s₀ _ ((compStart (.GeneratorExp elt [⟨tg, iter, ifs, 0⟩] scope pos) 0 (.ref it) .none Z.env).onRaise (leaving Z.env)) [] s
  unfold compStart; rw [Sem.onRaise_eq_wrap]
  show Seg _ A _ _ _ s₀ _ ((ask >>= _).wrap _ _ _ _) [] s
  refine seg_bind_wrap (wpAny_askSetting ?_)
  split
  · exact seg_again rfl loop
  · first
      | exact seg_bind_wrap (wpAny_rule (seg_bind_wrap (wpAny_standAt (seg_bind_wrap (Tn.self _ i s _ _ ar.turn (seg_again rfl loop))))))
      | (refine seg_bind_wrap (wpAny_rule ?_); show Seg _ A _ _ _ s₀ _ ((standAt iter.pos >>= _).wrap _ _ _ _) [] s; exact seg_bind_wrap (wpAny_standAt (seg_bind_wrap (Tn.self _ i s _ _ ar.turn (seg_again rfl loop)))))

/-! ### the consumer -/
/-- the generator sleeps: its object at a, its record at gi -/
def Sleeps (Z : Cx) (pl : List (Addr × Obj)) (A : Around) (T : Nat → Heap → Prop) (fp : List Addr) (un : Bool) (W : Nat → Nat → Hp → Prop) (Yes No : Hp → Prop) (σ0 : L2.St) (vs : List Nat) (a : Addr) (gi : Nat) (n : Nat) (s : Shared) : Prop :=
  s.heap.IsGen a gi ∧ (∃ i σ H, AtRest Z pl T fp i σ H s) ∧ ∃ gs, s.gens[gi]? = some gs ∧ ∀ s', Woke s s' → gs.Goes (model Z.prog Z.w) A.in1 (fun n s₀ r s₁ => r = .ok .next ∧ GRa Z pl No n s₀ s₁) (GYa Z pl T fp un W Yes σ0 vs) n (.send .none) s'
theorem bare_set {s : Shared} {gi : Nat} {x : GenState} (hb : AllBare s.gens) (hx : x.bare = true) : AllBare (s.setGen gi x).gens := by
  intro y hy
  obtain ⟨j, hj, rfl⟩ := Array.mem_iff_getElem.mp hy
  by_cases e : j = gi
  · subst e
    have : (s.setGen j x).gens[j] = x := by simp [Shared.setGen]
    rw [this]; exact hx
  · have hj' : j < s.gens.size := by simpa [Shared.setGen] using hj
    have : (s.setGen gi x).gens[j] = s.gens[j] := by
      simp only [Shared.setGen]
      rw [Array.getElem_setIfInBounds (by simpa [Shared.setGen] using hj), if_neg (Ne.symm e)]
    rw [this]
    exact hb _ (Array.getElem_mem hj')
theorem set_at {s : Shared} {gi : Nat} {x : GenState} (h : gi < s.gens.size) : (s.setGen gi x).gens[gi]? = some x := by
  simp [Shared.setGen, h]
theorem next_step {A : Around} {a : Addr} {gi n : Nat} {s : Shared} {E : Value → Shared → Prop} (hh : A.handled = none) (hroom : A.depth < recursionLimit) (hpin : ∃ o, (a, o) ∈ pl ∧ ∀ h : Heap, h.get? a = some o → h.IsGen a gi)
    (sl : Sleeps Z pl A T fp un W Yes No σ0 vs a gi n s) :
    wpAny (model Z.prog Z.w) A (pyNext (.ref a)) (fun r s' => (r = none ∧ ∃ σ H, Inv Z pl σ H s' ∧ No H) ∨ ∃ c σ H, r = some (.bool c) ∧ Inv Z pl σ H s' ∧ (c = un → Yes H) ∧ (c ≠ un → ∃ n', n' < n ∧ Sleeps Z pl A T fp un W Yes No σ0 vs a gi n' s')) E s := by
  obtain ⟨hg, ⟨i, σ, H, ar⟩, gs, hgs, hgo⟩ := sl
  have hlt : gi < s.gens.size := by
    rcases Nat.lt_or_ge gi s.gens.size with z | z
    · exact z
    · rw [Array.getElem?_eq_none z] at hgs; cases hgs
  refine GenW.wpAny_gsz (n := gi + 1) hlt ?_
  refine wpAny_pyNext_genexpQ (P := GRa Z pl No) hh ar.inv.nolimit hroom hg hgs (hgo _ ⟨rfl, rfl, bare_set ar.inv.bare rfl⟩) (fun v s₁ gs' hb hv hsz => ?_) (fun s₁ hp h' hk hsz => ?_)
  · obtain ⟨c, i', H', rfl, ⟨σ', ar'⟩, hy, hn⟩ := hv
    have hsz' : gi < s₁.gens.size := by
      have : gi + 1 ≤ (s₁.setGen gi gs').gens.size := hsz
      simp [Shared.setGen] at this
      omega
    have ar2 : AtRest Z pl T fp i' σ' H' (s₁.setGen gi gs') := ar'.woke ⟨rfl, rfl, bare_set ar'.inv.bare hb⟩
    refine .inr ⟨c, σ', H', rfl, ar2.inv, hy, fun hc => ?_⟩
    have hn := hn hc
    cases n with
    | zero => exact (hn s₁ ⟨rfl, rfl, ar'.inv.bare⟩).elim
    | succ n' =>
      obtain ⟨o, ho, hgen⟩ := hpin
      refine ⟨n', Nat.lt_succ_self _, hgen _ (ar2.inv.pin (a, o) (List.mem_append_right _ ho)).1, ⟨i', σ', H', ar2⟩, gs', set_at hsz', fun s' hw => ?_⟩
      exact hn s' ⟨hw.heap, hw.os, hw.bare⟩
  · obtain ⟨σ', H', I', hno⟩ := hp
    refine .inl ⟨rfl, σ', H', ?_, hno⟩
    have I2 : Inv Z pl σ' H' (s₁.setGen gi .finished) := by
      refine I'.step (h' := s₁.heap) (g' := (s₁.setGen gi .finished).gens) (t' := s₁.toks) (d' := s₁.drawn) (ch := []) (fun b z => absurd z (by simp)) (fun b o _ _ _ e _ => e) (fun b o _ _ _ e _ => ⟨o.slots, e⟩) (fun b o _ _ n => n) (fun b o _ e => ⟨o, e⟩) (fun _ _ e => e) (fun _ _ _ e => e) (fun b ps e => ⟨#[], by rw [e]; simp⟩) (fun m hm => hm) I'.hok (bare_set I'.bare rfl)
    exact I2.kept (t' := s₁.toks) hk
theorem any_loop {A : Around} {a : Addr} {gi : Nat} {R : Result → Shared → Prop} (hh : A.handled = none) (hroom : A.in1.depth < recursionLimit) (hpin : ∃ o, (a, o) ∈ pl ∧ ∀ h : Heap, h.get? a = some o → h.IsGen a gi)
    (hy : ∀ σ H s', Inv Z pl σ H s' → Yes H → R (.ok (.ret (.bool true))) s') (hno : ∀ σ H s', Inv Z pl σ H s' → No H → R (.ok (.ret (.bool false))) s') :
    ∀ (n : Nat) (s : Shared), Sleeps Z pl A.in1 T fp true W Yes No σ0 vs a gi n s → codeAny (model Z.prog Z.w) A (.builtin "any.loop" ⟨[.ref a], []⟩) R s := by
  intro n
  induction n using Nat.strongRecOn with
  | ind n ih =>
    intro s sl
    refine codeAny_builtin F.entry_any_loop ?_
    rw [Around.under_plainId F.plain_any_loop _]
    show wpAny _ A.in1 (pyNext (.ref a) >>= _) _ _ s
    refine wpAny_bind (wpAny_mono (next_step (E := fun _ _ => False) hh hroom hpin sl) (fun r s' q => ?_) fun _ _ z => z.elim)
    rcases q with ⟨rfl, σ, H, I, q⟩ | ⟨c, σ, H, rfl, I, q1, q2⟩
    · exact wpAny_bind (wpAny_rule (wpAny_pure (hno σ H s' I q)))
    · refine wpAny_bind (wpAny_holding (wpAny_truthy_bool ?_))
      refine wpAny_bind (wpAny_letGo ?_)
      cases c with
      | true => simp only [if_true]; exact wpAny_bind (wpAny_rule (wpAny_pure (hy σ H s' I (q1 rfl))))
      | false =>
        simp only [Bool.false_eq_true, if_false]
        obtain ⟨n', hn, sl'⟩ := q2 (by decide)
        exact wpAny_pure ⟨plainId_quiet F.plain_any_loop _, ih n' hn s' sl'⟩
theorem all_loop {A : Around} {a : Addr} {gi : Nat} {R : Result → Shared → Prop} (hh : A.handled = none) (hroom : A.in1.depth < recursionLimit) (hpin : ∃ o, (a, o) ∈ pl ∧ ∀ h : Heap, h.get? a = some o → h.IsGen a gi)
    (hy : ∀ σ H s', Inv Z pl σ H s' → Yes H → R (.ok (.ret (.bool false))) s') (hno : ∀ σ H s', Inv Z pl σ H s' → No H → R (.ok (.ret (.bool true))) s') :
    ∀ (n : Nat) (s : Shared), Sleeps Z pl A.in1 T fp false W Yes No σ0 vs a gi n s → codeAny (model Z.prog Z.w) A (.builtin "all.loop" ⟨[.ref a], []⟩) R s := by
  intro n
  induction n using Nat.strongRecOn with
  | ind n ih =>
    intro s sl
    refine codeAny_builtin F.entry_all_loop ?_
    rw [Around.under_plainId F.plain_all_loop _]
    show wpAny _ A.in1 (pyNext (.ref a) >>= _) _ _ s
    refine wpAny_bind (wpAny_mono (next_step (E := fun _ _ => False) hh hroom hpin sl) (fun r s' q => ?_) fun _ _ z => z.elim)
    rcases q with ⟨rfl, σ, H, I, q⟩ | ⟨c, σ, H, rfl, I, q1, q2⟩
    · exact wpAny_bind (wpAny_rule (wpAny_pure (hno σ H s' I q)))
    · refine wpAny_bind (wpAny_holding (wpAny_truthy_bool ?_))
      refine wpAny_bind (wpAny_letGo ?_)
      cases c with
      | false => simp only [Bool.false_eq_true, if_false]; exact wpAny_bind (wpAny_rule (wpAny_pure (hy σ H s' I (q1 rfl))))
      | true =>
        simp only [if_true]
        obtain ⟨n', hn, sl'⟩ := q2 (by decide)
        exact wpAny_pure ⟨plainId_quiet F.plain_all_loop _, ih n' hn s' sl'⟩
end
end Sm

set_option Elab.async false
set_option linter.all false
set_option autoImplicit false
set_option maxRecDepth 100000
set_option maxHeartbeats 2000000
/-! Sm10: any(..), all(..) of a generator expression as an expression. -/
namespace Sm
open PySem L2 Evl PyProof.Rows GxR
/-- a generator expression's own scope -/
structure GScope (X : Cx) (scope : Scope) (own : List (Str × Nat)) : Prop where
  ok : BlkOk X.N X.env.scope scope own
  co : scope.isCoroutine = false
  cell : ∀ y ∈ scope.names, y.2 ≠ .cell
  dot : scope.names.lookup (".0" : Str) = some NameKind.local
section
variable {X : Cx} {pins : List (Addr × Obj)} {σ : L2.St} {H : Hp} {s : Shared} {c P : Addr} {tg elt iter : Expr} {ifs : List Expr} {scope : Scope} {own : List (Str × Nat)} {pos gpos p : Pos} {wi : TI} {g : TG} {tt : TT} {te : TE} {k : Nat}
/-- the generator's code -/
abbrev gCode (elt tg iter : Expr) (ifs : List Expr) (scope : Scope) (gpos : Pos) (it : Addr) (env : PySem.Env) : Code := .compStart (.GeneratorExp elt [⟨tg, iter, ifs, 0⟩] scope gpos) 0 (.ref it) .none env
theorem gen_eval {Q' : Value → Shared → Prop} {Rq : It → Hp → Prop} (hr : Room k X.A) (TB : TabB X.base X.mg c P) (hcode : X.env.code = .ref c) (hi : PI X tg iter wi) (S : GScope X scope own) (hs : ∀ v, genFold iter X.env v = pure v)
    (I : Inv X pins σ H s) (h : wi σ H fun J H1 => TabG H1 P ∧ ∀ H2, Tabbed P H1 H2 → Rq J H2)
    (hQ : ∀ (s4 : Shared) (H2 : Hp) (J : It) (it : Addr) (fp : List Addr) (T : Nat → Heap → Prop) (code : Value) (h4 : Heap) (m : Str → Option Value) (o : Obj) (tk : Nat), Inv X pins σ H2 s4 → Turn X.prog X.w X.K tg J fp it T → T 0 s4.heap → (∀ b ∈ fp, FpOk X pins H2 b ∧ b < s4.heap.objs.size) →
      (∀ b u, s4.heap.get? b = some u → h4.get? b = some u) → h4.Ns s4.heap.objs.size m → s4.heap.objs.size < h4.objs.size → (∀ h : Heap, h.get? h4.objs.size = some o → h.IsGen h4.objs.size s4.gens.size) → (∀ v, o.data ≠ .cell v) → o.isFreed = false → Rq J H2 →
      Q' (.ref h4.objs.size) { s4 with gens := s4.gens.push (.fresh (gCode elt tg iter ifs scope gpos it (gEnv X scope s4.heap.objs.size code))), toks := tk, heap := h4.push o }) :
    wpAny (model X.prog X.w) X.A (eval (.GeneratorExp elt [⟨tg, iter, ifs, 0⟩] scope gpos) X.env) Q' X.xe s := by
  have hfree : ∀ y ∈ scope.names, y.2 = .free → ∃ c, X.env.cells.lookup y.1 = some c := fun y hy e => (S.ok.free y hy e).elim (fun k => I.ok.has _ (.inl k)) fun k => I.ok.has _ (.inr k)
  refine wpAny_GeneratorExp_make S.co (closure_ok hfree) S.cell S.dot S.ok.kind (by have := hr.dp; omega) ?_ hs
  refine thn (hi.run pins s σ H _ I h) fun xv s1 q1 => thn q1 fun itv s2 q2 => ?_
  obtain ⟨it, fp, T, J, H1, rfl, I1, Tn, t1, f1, ⟨ps, hP, htr⟩, hR⟩ := q2
  have hPs : s2.heap.get? P = some { cls := .none, data := .fields ps } := I1.hok P _ hP
  have cd : PySem.W.CodeHd s2.heap c P := TB.code.keeps fun b u e => I1.bk b u e
  have lim := I1.nolimit
  have hcP : cStatics ≠ P := fun e => by
    obtain ⟨_, hns, _⟩ := lim
    obtain ⟨o', es, ep, ho, hd, _⟩ := hns
    rw [e, hPs] at ho
    cases ho
    cases hd
  have fpP : ∀ b ∈ fp, b ≠ P := fun b hb z => by
    have := (f1 b hb).1
    rw [z, hP] at this; cases this
  have cont : ∀ (code : Value) (h3 : Heap) (tk : Nat) (ps' : Array Value), Heap.ExtBut P s2.heap h3 → s2.heap.objs.size ≤ h3.objs.size → h3.get? P = some { cls := .none, data := .fields ps' } → (∃ more, ps' = ps ++ more) → TriplesOk ps'.toList →
      wpAny (model X.prog X.w) X.A (builtinsFor X.env.globals X.env.builtins) (fun bi s4 => ∀ h', h'.Ns s4.heap.objs.size (fun y => if y = ".0" then some (.ref it) else none) → Heap.SameBut s4.heap.objs.size (s4.heap.push { cls := .type "frame", data := .dict #[] }) h' →
          Q' (.ref h'.objs.size) { s4 with
            gens := s4.gens.push (.fresh (.compStart (.GeneratorExp elt [⟨tg, iter, ifs, 0⟩] scope gpos) 0 (.ref it) .none (genEnv scope (cloFrom X.env.cells scope.names []) s4.heap.objs.size code bi X.env))),
            toks := s4.toks + 1 + 1 + 1,
            heap := h'.push { cls := .type "generator", data := .fields #[.int s4.gens.size 0, .str "<genexpr>" (s4.toks + 1), .str (X.env.qual ++ "<genexpr>") (s4.toks + 1 + 1)] } }) X.xe { s2 with heap := h3, toks := tk } := by
    intro code h3 tk ps' hx hsz hP3 hmore ht3
    obtain ⟨bm, ob, e1, e2, e3, e4, e5, e6, e7, e8⟩ := TB.bm
    have keep3 : ∀ b u, b ≠ P → s2.heap.get? b = some u → h3.get? b = some u := fun b u hb e => hx b u hb e
    refine wpAny_builtinsFor (m := X.mg) (by rw [I1.ok.glob]; exact (I1.mod.glob.keeps I1.bk).extBut hx TB.gP) e1 e2 (keep3 _ _ e4 (I1.bk _ _ e5)) e6 e7 e8 ?_
    intro h' hns' sb
    obtain ⟨more, em⟩ := hmore
    have J2 := inv_tab (more := more) (h' := h3) (g' := s2.gens) (d' := s2.drawn) (t' := tk) I1 hP keep3 (by rw [← em]; exact hP3) I1.bare
    have hTab : Tabbed P H1 (upd H1 P (.tbl (ps ++ more))) := ⟨⟨ps ++ more, upd_same, by rw [← em]; exact ht3⟩, fun b hb => upd_ne hb⟩
    have kp4 : ∀ b u, h3.get? b = some u → h'.get? b = some u := fun b u e => sb.extBut b u (Nat.ne_of_lt (Heap.lt_size e)) (Heap.get?_push_of_some _ e)
    have sz4 : h'.objs.size = h3.objs.size + 1 := by rw [sb.1, Heap.size_push]
    refine hQ { s2 with heap := h3, toks := tk } (upd H1 P (.tbl (ps ++ more))) J it fp T code h' _ _ _ J2 Tn (Tn.keep _ _ _ t1 fun b hb o e => keep3 b o (fpP b hb) e) (fun b hb => ?_) kp4 hns' (by show h3.objs.size < h'.objs.size; omega) (fun hh e => ⟨_, _, _, e, rfl, rfl, rfl⟩) (fun v z => by cases z) rfl (hR _ hTab)
    obtain ⟨z1, z2, z3, z4, z5, z6⟩ := f1 b hb
    refine ⟨⟨by rw [upd_ne (fpP b hb)]; exact z1, z2, z3, z4, z5, z6⟩, ?_⟩
    obtain ⟨o, e, _⟩ := Tn.obj _ _ t1 b hb
    exact Nat.lt_of_lt_of_le (Heap.lt_size e) hsz
  refine ⟨lim, ?_⟩
  cases hf : codeAmong gpos ps.toList with
  | none =>
    refine wpAny_genexprCodeX hcode (cd.code hPs htr) (cd.tab hPs) hf fun c' h3 tk hx hge hlt hco' _ htab' _ => ?_
    obtain ⟨o1, vs, f1, tf, fl, tg', inF, tx, tt', op, _, _, _, _, _, _, _, _, _, htr', _⟩ := hco'
    exact cont _ h3 tk _ hx (Nat.le_trans hge (Nat.le_of_lt hlt)) htab'.2 ⟨_, rfl⟩ htr'
  | some cv =>
    refine wpAny_genexprCode_hit hcode (cd.code hPs htr) hf ?_
    exact cont cv s2.heap s2.toks ps (fun _ _ _ e => e) (Nat.le_refl _) hPs ⟨#[], by simp⟩ htr

/-- what the reading asks: a wish for the items; behind it the def's table may have grown -/
def tAnyG (P : Addr) (wi : TI) (g : TG) (tt : TT) (te : TE) (vs : List Nat) (un : Bool) : TE := fun σ H Q => wi σ H fun J H1 => TabG H1 P ∧ ∀ H2, Tabbed P H1 H2 → ∃ W : Nat → Nat → Hp → Prop, (∃ m, W 0 m H2) ∧
  ∀ i m H, W i m H → (J.stop i H ∧ Q (.bl (!un)) H) ∨ (J.go i H ∧ ∃ Nx : Hp → Prop, (∀ H', Nx H' → ∃ m', m' < m ∧ W (i + 1) m' H') ∧ ∀ x H', J.yld i H x H' → g x (L2.wipe σ vs) H' fun σ2 H2 => L2.wipe σ2 vs = L2.wipe σ vs ∧ tt σ2 H2 fun b H3 =>
    if b = true then te σ2 H3 fun y H4 => ∃ c, y = .bl c ∧ (if c = un then Q (.bl un) H4 else Nx H4) else Nx H3)
/-- the contexts that the generator's parts run in -/
def InGen (X : Cx) (k : Nat) (elt tg iter : Expr) (ifs : List Expr) (scope : Scope) (gpos : Pos) (Ok : Cx → Prop) : Prop := ∀ (s : Shared) (H : Hp) (code : Value) (fp : List Addr) (it : Addr) (A : Around), A = X.A.in1.in1.over (gCode elt tg iter ifs scope gpos it (gEnv X scope s.heap.objs.size code)) [] → Room k A →
  Ok (genCx X A s H scope s.heap.objs.size code fp)
theorem room_gen {A : Around} {env : PySem.Env} {it : Addr} (hr : Room (k + 1) A) : Room k (A.in1.in1.over (gCode elt tg iter ifs scope gpos it env) []) := by
  have h1 := hr.dp
  have h2 := hr.un
  refine ⟨hr.hd, ?_, ?_⟩
  · show A.depth + 0 + 1 + 3 * k + 5 < _
    omega
  · show A.units + 1 + 1 + 0 + 3 + 16 * k + 200 < _
    omega
theorem wipe_idem (σ : L2.St) (vs : List Nat) : L2.wipe (L2.wipe σ vs) vs = L2.wipe σ vs := wipe_off (Off.refl vs _) fun _ h => h
/-- all that is needed to let the generator run -/
theorem gen_ready {s4 : Shared} {H2 : Hp} {J : It} {it : Addr} {fp : List Addr} {T : Nat → Heap → Prop} {code : Value} {h4 : Heap} {m0 : Str → Option Value} {o : Obj} {tk : Nat} {un : Bool} {Q : VK} (hr : Room (k + 1) X.A) (S : GScope X scope own) (hN : X.N.Nodup) (I : Inv X pins σ H2 s4)
    (Tn : Turn X.prog X.w X.K tg J fp it T) (t0 : T 0 s4.heap) (hfp : ∀ b ∈ fp, FpOk X pins H2 b ∧ b < s4.heap.objs.size) (kp : ∀ b u, s4.heap.get? b = some u → h4.get? b = some u) (hns : h4.Ns s4.heap.objs.size m0) (hlt : s4.heap.objs.size < h4.objs.size)
    (hgen : ∀ h : Heap, h.get? h4.objs.size = some o → h.IsGen h4.objs.size s4.gens.size) (hcell : ∀ v, o.data ≠ .cell v) (hfree' : o.isFreed = false)
    (hgI : InGen X k elt tg iter ifs scope gpos fun Z => PG Z tg g) (htI : InGen X k elt tg iter ifs scope gpos fun Z => PTs Z ifs tt) (heI : InGen X k elt tg iter ifs scope gpos fun Z => PE Z elt te)
    (hR : ∃ W : Nat → Nat → Hp → Prop, (∃ m, W 0 m H2) ∧ ∀ i m H, W i m H → (J.stop i H ∧ Q (.bl (!un)) H) ∨ (J.go i H ∧ ∃ Nx : Hp → Prop, (∀ H', Nx H' → ∃ m', m' < m ∧ W (i + 1) m' H') ∧ ∀ x H', J.yld i H x H' → g x (L2.wipe σ (own.map (·.2))) H' fun σ2 H2 => L2.wipe σ2 (own.map (·.2)) = L2.wipe σ (own.map (·.2)) ∧ tt σ2 H2 fun b H3 =>
      if b = true then te σ2 H3 fun y H4 => ∃ c, y = .bl c ∧ (if c = un then Q (.bl un) H4 else Nx H4) else Nx H3)) :
    ∃ (W : Nat → Nat → Hp → Prop) (n : Nat), Sleeps (genCx X (X.A.in1.in1.over (gCode elt tg iter ifs scope gpos it (gEnv X scope s4.heap.objs.size code)) []) s4 H2 scope s4.heap.objs.size code fp) [(h4.objs.size, o)] X.A.in1 T fp un W (Q (.bl un)) (Q (.bl (!un))) σ (own.map (·.2)) h4.objs.size s4.gens.size n
      { s4 with gens := s4.gens.push (.fresh (gCode elt tg iter ifs scope gpos it (gEnv X scope s4.heap.objs.size code))), toks := tk, heap := h4.push o } := by
  obtain ⟨W, ⟨m, hw⟩, hW⟩ := hR
  have hrk := room_gen (elt := elt) (tg := tg) (iter := iter) (ifs := ifs) (scope := scope) (gpos := gpos) (env := gEnv X scope s4.heap.objs.size code) (it := it) hr
  have sp : (h4.push o).get? h4.objs.size = some o := Heap.get?_push_size _ hfree'
  have bare5 : AllBare (s4.gens.push (.fresh (gCode elt tg iter ifs scope gpos it (gEnv X scope s4.heap.objs.size code)))) := I.bare.push rfl
  have I5 := gen_start (A := X.A.in1.in1.over (gCode elt tg iter ifs scope gpos it (gEnv X scope s4.heap.objs.size code)) []) (code := code) (fp := fp) (h1 := h4.push o) (tk := tk) (gs := s4.gens.push (.fresh (gCode elt tg iter ifs scope gpos it (gEnv X scope s4.heap.objs.size code)))) (m := m0) I S.ok S.cell hN hfp
    (by
      show pushEnvs [gEnv X scope s4.heap.objs.size code] (pushEnvs [] X.A.frames) = _
      rw [I.ok.frames]; rfl) hr.hd (fun b u e => Heap.get?_push_of_some _ (kp b u e)) (hns.push _) bare5
  have nofr : h4.objs.size ∉ frs X.stack := fun z => by
    rcases List.mem_cons.mp (I.stkSub _ z) with e | e
    · have h1 := I.lt
      rw [← e] at h1
      exact Nat.lt_irrefl _ (Nat.lt_trans h1 hlt)
    · exact I.nofs (Nat.le_of_lt hlt) e
  have I6 := I5.pins_of (pins' := [(h4.objs.size, o)]) fun q hq => by
    have e : q = (h4.objs.size, o) := by simpa using hq
    subst e
    exact ⟨sp, I.hok.fresh (Nat.le_of_lt hlt), Nat.ne_of_gt hlt, nofr, hcell⟩
  have hfree : ∀ y ∈ scope.names, y.2 = .free → ∃ c, X.env.cells.lookup y.1 = some c := fun y hy e => (S.ok.free y hy e).elim (fun k => I.ok.has _ (.inl k)) fun k => I.ok.has _ (.inr k)
  have ar : AtRest (genCx X (X.A.in1.in1.over (gCode elt tg iter ifs scope gpos it (gEnv X scope s4.heap.objs.size code)) []) s4 H2 scope s4.heap.objs.size code fp) [(h4.objs.size, o)] T fp 0 (L2.wipe σ (own.map (·.2))) H2
      { s4 with gens := s4.gens.push (.fresh (gCode elt tg iter ifs scope gpos it (gEnv X scope s4.heap.objs.size code))), toks := tk, heap := h4.push o } :=
    ⟨I6, Tn.keep _ _ _ t0 fun b hb u e => Heap.get?_push_of_some _ (kp b u e), fun b hb => (hfp b hb).1.1⟩
  refine ⟨W, m + 1, hgen _ sp, ⟨0, _, _, ar⟩, _, Array.getElem?_push_size .., fun s' hk => ⟨rfl, ?_⟩⟩
  refine seg_start (Z := genCx X (X.A.in1.in1.over (gCode elt tg iter ifs scope gpos it (gEnv X scope s4.heap.objs.size code)) []) s4 H2 scope s4.heap.objs.size code fp) (J := J) (g := g) (tt := tt) (te := te) rfl rfl rfl S.co rfl Tn (fun σ' H' s'' hf I' b hb => ?_)
    (hgI s4 H2 code fp it _ rfl hrk) (htI s4 H2 code fp it _ rfl hrk) (heI s4 H2 code fp it _ rfl hrk) ⟨hW⟩ (Nat.lt_succ_self m) hw (ar.woke hk) (wipe_idem _ _)
  obtain ⟨⟨z1, z2, z3, z4, z5, z6⟩, z7⟩ := hfp b hb
  refine ⟨hf b hb, Nat.ne_of_lt z7, fun z => ?_, .inl hb, fun y c' e => z5 y c' (clo_at hfree e), fun q hq => ?_⟩
  · rcases List.mem_cons.mp (I.stkSub _ z) with e | e
    · exact z2 e
    · exact z3 e
  · have e : q = (h4.objs.size, o) := by simpa [genCx] using hq
    subst e
    exact Nat.ne_of_gt (Nat.lt_trans z7 hlt)
theorem gen_back {s4 s' : Shared} {H2 H' : Hp} {A : Around} {fp : List Addr} {code : Value} {pl : List (Addr × Obj)} {σ' : L2.St} (I : Inv X pins σ H2 s4) (hfp : ∀ b ∈ fp, FpOk X pins H2 b ∧ b < s4.heap.objs.size)
    (J : Inv (genCx X A s4 H2 scope s4.heap.objs.size code fp) pl σ' H' s') : Inv X pins σ H' s' :=
  I.call' J.os J.base J.hok J.bare fun b hb => ⟨(hfp b hb).1.2.2.2.1, (hfp b hb).1.2.1, (hfp b hb).1.2.2.2.2.1, (hfp b hb).1.2.2.2.2.2⟩
theorem pe_anyG (hr : Room (k + 1) X.A) (hg : Gl X "any") (hm : X.mg "any" = none) (TB : TabB X.base X.mg c P) (hcode : X.env.code = .ref c) (hi : PI X tg iter wi) (S : GScope X scope own) (hN : X.N.Nodup) (hs : ∀ v, genFold iter X.env v = pure v)
    (hgI : InGen X k elt tg iter ifs scope gpos fun Z => PG Z tg g) (htI : InGen X k elt tg iter ifs scope gpos fun Z => PTs Z ifs tt) (heI : InGen X k elt tg iter ifs scope gpos fun Z => PE Z elt te)
    (hse : starEach [.GeneratorExp elt [⟨tg, iter, ifs, 0⟩] scope gpos] X.env = (false, eval (.GeneratorExp elt [⟨tg, iter, ifs, 0⟩] scope gpos) X.env) :: starEach [] X.env := by rfl) :
    PE X (.Call (.Name "any" p) [.GeneratorExp elt [⟨tg, iter, ifs, 0⟩] scope gpos] [] pos) (tAnyG P wi g tt te (own.map (·.2)) true) := by
  refine ⟨fun pins s0 σ0 H0 Q0 I0 q0 => wpAny_Call_Name_kw (ld_blt I0 hg hm boot_any (PyProof.Rows.callWith_builtin1 ?_ hse (by rfl)))⟩
  rw [hse]
  refine Calls.spliced_cons (gen_eval (Rq := fun J H2 => _) hr TB hcode hi S hs I0 q0 fun s4 H2 J it fp T code h4 m o tk I Tn t0 hfp kp hns hlt hgen hcell hfr hR => Calls.spliced_nil ?_)
  obtain ⟨W, n, sl⟩ := gen_ready (tk := tk) hr S hN I Tn t0 hfp kp hns hlt hgen hcell hfr hgI htI heI hR
  refine call_function_tree F.kind_any F.plain_any F.entry_any (F.args_any1 _) ?_
  unfold Builtin.«any»
  refine wpAny_bind (m := oneArg "any" _) (wpAny_pure (wpAny_bind (wpAny_pyIter_gen sl.1 (wpAny_pure ⟨plainId_quiet F.plain_any_loop _, ?_⟩))))
  refine any_loop (Z := genCx X (X.A.in1.in1.over (gCode elt tg iter ifs scope gpos it (gEnv X scope s4.heap.objs.size code)) []) s4 H2 scope s4.heap.objs.size code fp) (pl := [(h4.objs.size, o)]) (A := X.A) hr.hd (by show X.A.depth < _; have := hr.dp; omega) ⟨o, by simp, hgen⟩ (fun σ' H' s' J' hq => ?_) (fun σ' H' s' J' hq => ?_) n _ sl
  · exact ⟨.bl true, H', gen_back I hfp J', rfl, hq⟩
  · exact ⟨.bl false, H', gen_back I hfp J', rfl, hq⟩
theorem pe_allG (hr : Room (k + 1) X.A) (hg : Gl X "all") (hm : X.mg "all" = none) (TB : TabB X.base X.mg c P) (hcode : X.env.code = .ref c) (hi : PI X tg iter wi) (S : GScope X scope own) (hN : X.N.Nodup) (hs : ∀ v, genFold iter X.env v = pure v)
    (hgI : InGen X k elt tg iter ifs scope gpos fun Z => PG Z tg g) (htI : InGen X k elt tg iter ifs scope gpos fun Z => PTs Z ifs tt) (heI : InGen X k elt tg iter ifs scope gpos fun Z => PE Z elt te)
    (hse : starEach [.GeneratorExp elt [⟨tg, iter, ifs, 0⟩] scope gpos] X.env = (false, eval (.GeneratorExp elt [⟨tg, iter, ifs, 0⟩] scope gpos) X.env) :: starEach [] X.env := by rfl) :
    PE X (.Call (.Name "all" p) [.GeneratorExp elt [⟨tg, iter, ifs, 0⟩] scope gpos] [] pos) (tAnyG P wi g tt te (own.map (·.2)) false) := by
  refine ⟨fun pins s0 σ0 H0 Q0 I0 q0 => wpAny_Call_Name_kw (ld_blt I0 hg hm boot_all (PyProof.Rows.callWith_builtin1 ?_ hse (by rfl)))⟩
  rw [hse]
  refine Calls.spliced_cons (gen_eval (Rq := fun J H2 => _) hr TB hcode hi S hs I0 q0 fun s4 H2 J it fp T code h4 m o tk I Tn t0 hfp kp hns hlt hgen hcell hfr hR => Calls.spliced_nil ?_)
  obtain ⟨W, n, sl⟩ := gen_ready (tk := tk) hr S hN I Tn t0 hfp kp hns hlt hgen hcell hfr hgI htI heI hR
  refine call_function_tree F.kind_all F.plain_all F.entry_all (F.args_all1 _) ?_
  unfold Builtin.«all»
  refine wpAny_bind (m := oneArg "all" _) (wpAny_pure (wpAny_bind (wpAny_pyIter_gen sl.1 (wpAny_pure ⟨plainId_quiet F.plain_all_loop _, ?_⟩))))
  refine all_loop (Z := genCx X (X.A.in1.in1.over (gCode elt tg iter ifs scope gpos it (gEnv X scope s4.heap.objs.size code)) []) s4 H2 scope s4.heap.objs.size code fp) (pl := [(h4.objs.size, o)]) (A := X.A) hr.hd (by show X.A.depth < _; have := hr.dp; omega) ⟨o, by simp, hgen⟩ (fun σ' H' s' J' hq => ?_) (fun σ' H' s' J' hq => ?_) n _ sl
  · exact ⟨.bl false, H', gen_back I hfp J', rfl, hq⟩
  · exact ⟨.bl true, H', gen_back I hfp J', rfl, hq⟩
end
end Sm

set_option Elab.async false
set_option linter.all false
set_option autoImplicit false
set_option maxRecDepth 100000
set_option maxHeartbeats 2000000
/-! Sm11: the mirror of any(..) and all(..) of a generator expression; raise; try. -/
namespace Sm
open PySem L2 Evl GxR
/-- un: the answer at which it stops -/
def anyL (un : Bool) (g : MG) (t : MT) (m : ME) : List D → Env → Sto → Rz Bool
  | [] => fun _ A => .ok (!un) A
  | d :: ds => fun ρ A => match g d ρ with
    | none => .no
    | some ρ1 => match t ρ1 A with
      | .ok false A1 => anyL un g t m ds ρ A1
      | .ok true A1 => match m ρ1 A1 with
        | .ok (.bl c) A2 => if c = un then .ok un A2 else anyL un g t m ds ρ A2
        | _ => .no
      | _ => .no
def mAny (un : Bool) (j : Nat) (vs : List Nat) (mi : MA) (g : MG) (t : MT) (m : ME) : ME := bd mi fun ds => fun ρ A => match A[j]? with
  | some (.tabG k) => if k = j then (match anyL un g t m ds (wipeD ρ vs) A with
    | .ok b A' => .ok (.bl b) A'
    | _ => .no) else .no
  | _ => .no
section
variable {X : Cx} {W : Wt} {c P : Addr} {tg elt iter e : Expr} {ifs : List Expr} {scope : Scope} {own : List (Str × Nat)} {pos gpos p : Pos} {mi : MA} {g : MG} {t : MT} {m : ME} {k j : Nat} {vs ws : List Nat} {un : Bool}
theorem set_same {α : Type} {l : List α} {i : Nat} {x : α} (h : l[i]? = some x) : l.set i x = l := by
  refine List.ext_getElem? fun k => ?_
  by_cases hk : k = i
  · subst hk
    rw [List.getElem?_set_self (List.getElem?_eq_some_iff.mp h).1, h]
  · rw [List.getElem?_set_ne (Ne.symm hk)]
theorem tAny_of (hP : W.tb.tab j = P) (hsub : ∀ i ∈ ws, i ∈ vs) {σ : L2.St} {H : Hp} {Q : VK} (q : tM X W (mAny un j vs mi g t m) σ H Q) : tAnyG P (tMI X W mi) (tMG X ws g) (tMT X W.off t) (tM X W.off m) vs un σ H Q := by
  obtain ⟨ρ, A, F, B, ι, gd, ev, q⟩ := q
  refine ⟨ρ, A, F, B, ι, gd, ev, q.bind.imp fun ds A1 q1 B1 ι1 H1 J l1 g1 wk => ?_⟩
  cases hA : A1[j]? with
  | none => simp only [hA] at q1; exact q1.elim
  | some o =>
  cases o with
  | tabG kk =>
    simp only [hA] at q1
    by_cases hk : kk = j
    · subst hk
      rw [if_pos rfl] at q1
      cases hl : anyL un g t m ds (wipeD ρ vs) A1 with
      | exc c A2 => simp only [hl] at q1; exact q1.elim
      | no => simp only [hl] at q1; exact q1.elim
      | ok b AF =>
        simp only [hl] at q1
        have q1 : ∀ B' ι' H' v, Le B ι B' ι' → Good X.K X.mg W.tb F B' ι' AF H' → Rep X.K B' ι' (.bl b) v → Q v H' := q1
        have hlen : kk < ι1.length := by rw [g1.len]; exact (List.getElem?_eq_some_iff.mp hA).1
        obtain ⟨ea, ps, hps, htr⟩ := g1.obj kk _ _ (List.getElem?_eq_getElem hlen) hA
        have ei : ι1[kk]? = some P := by rw [List.getElem?_eq_getElem hlen, ea, hP]
        rw [ea, hP] at hps
        refine ⟨⟨ps, hps, htr⟩, fun H2 hT => ?_⟩
        obtain ⟨⟨ps2, e2, t2⟩, hoff⟩ := hT
        have hH2 : H2 = upd H1 P (.tbl ps2) := funext fun b => by
          by_cases hb : b = P
          · rw [hb, upd_same, e2]
          · rw [upd_ne hb, hoff b hb]
        have g2 : Good X.K X.mg W.tb F B1 ι1 A1 H2 := by
          have := g1.wr (u := .tabG kk) (x := .tbl ps2) ei hA rfl ⟨hP.symm, ps2, upd_same, t2⟩
          rw [set_same hA] at this
          rw [hH2]; exact this
        refine ⟨fun i mm H => mm = ds.length - i ∧ ∃ A B' ι', Le B1 ι1 B' ι' ∧ Good X.K X.mg W.tb F B' ι' A H ∧ anyL un g t m (ds.drop i) (wipeD ρ vs) A = .ok b AF, ⟨ds.length, rfl, A1, B1, ι1, Le.refl, g2, hl⟩, ?_⟩
        rintro i mm H ⟨rfl, A2, B2, ι2, l2, g2, hl2⟩
        cases hd : ds.drop i with
        | nil =>
          rw [hd] at hl2
          unfold anyL at hl2
          injection hl2 with e1 e2
          subst e1 e2
          exact .inl ⟨wk.stop i l2 g2 (drop_nil hd), q1 B2 ι2 H _ (l1.trans l2) g2 .bl⟩
        | cons d r =>
          obtain ⟨hlt, hx, hr⟩ := drop_cons hd
          rw [hd] at hl2
          refine .inr ⟨wk.go i l2 g2 hlt, fun H => ∃ A B' ι', Le B1 ι1 B' ι' ∧ Good X.K X.mg W.tb F B' ι' A H ∧ anyL un g t m (ds.drop (i + 1)) (wipeD ρ vs) A = .ok b AF, fun H' z => ⟨ds.length - (i + 1), by omega, rfl, z⟩, fun x H3 hy => ?_⟩
          obtain ⟨B3, l3, g3, r3⟩ := wk.yld i x H3 d l2 g2 hx hy
          unfold anyL at hl2
          cases hgd : g d (wipeD ρ vs) with
          | none => simp only [hgd] at hl2; cases hl2
          | some ρ1 =>
            simp only [hgd] at hl2
            have ev' := ((ev.mono l1).mono l2).wipe vs
            refine ⟨W.tb, d, _, A2, F, B3, ι2, ρ1, g3, ev'.mono l3, r3, hgd, fun σ3 e3 o3 => ⟨wipe_off o3 hsub, ρ1, A2, F, B3, ι2, g3, e3, ?_⟩⟩
            cases ht : t ρ1 A2 with
            | exc c A3 => simp only [ht] at hl2; cases hl2
            | no => simp only [ht] at hl2; cases hl2
            | ok kb A3 =>
              simp only [ht] at hl2
              intro B4 ι4 H4 l4 g4
              cases kb with
              | false =>
                rw [if_neg (by decide)]
                exact ⟨A3, B4, ι4, (l2.trans l3).trans l4, g4, by rw [hr]; exact hl2⟩
              | true =>
                rw [if_pos rfl]
                simp only at hl2
                refine ⟨ρ1, A3, F, B4, ι4, g4, e3.mono l4, ?_⟩
                cases hm : m ρ1 A3 with
                | exc c A4 => simp only [hm] at hl2; cases hl2
                | no => simp only [hm] at hl2; cases hl2
                | ok y A4 =>
                  cases y with
                  | bl cc =>
                    simp only [hm] at hl2
                    intro B5 ι5 H5 w l5 g5 r5
                    cases r5
                    refine ⟨cc, rfl, ?_⟩
                    by_cases hcu : cc = un
                    · rw [if_pos hcu] at hl2 ⊢
                      injection hl2 with e1 e2
                      subst e1 e2
                      exact q1 B5 ι5 H5 _ ((((l1.trans l2).trans l3).trans l4).trans l5) g5 .bl
                    · rw [if_neg hcu] at hl2 ⊢
                      exact ⟨A4, B5, ι5, ((l2.trans l3).trans l4).trans l5, g5, by rw [hr]; exact hl2⟩
                  | _ => simp only [hm] at hl2; cases hl2
    · rw [if_neg hk] at q1; exact q1.elim
  | _ => simp only [hA] at q1; exact q1.elim
theorem se_any (hP : W.tb.tab j = P) (hr : Room (k + 1) X.A) (hg : Gl X "any") (hm : X.mg "any" = none) (TB : TabB X.base X.mg c P) (hcode : X.env.code = .ref c) (hi : SI X W tg iter mi) (S : GScope X scope own) (hN : X.N.Nodup)
    (hgI : InGen X k elt tg iter ifs scope gpos fun Z => SG Z ws tg g) (htI : InGen X k elt tg iter ifs scope gpos fun Z => SP1 Z W.off ifs t) (heI : InGen X k elt tg iter ifs scope gpos fun Z => SE Z W.off elt m)
    (hv : own.map (·.2) = vs := by rfl) (hsub : ∀ i ∈ ws, i ∈ vs := by decide) (hs : ∀ v, genFold iter X.env v = pure v := by intro _; rfl)
    (hse : starEach [.GeneratorExp elt [⟨tg, iter, ifs, 0⟩] scope gpos] X.env = (false, eval (.GeneratorExp elt [⟨tg, iter, ifs, 0⟩] scope gpos) X.env) :: starEach [] X.env := by rfl) :
    SE X W (.Call (.Name "any" p) [.GeneratorExp elt [⟨tg, iter, ifs, 0⟩] scope gpos] [] pos) (mAny true j vs mi g t m) := by
  subst hv
  exact (pe_anyG (g := tMG X ws g) (tt := tMT X W.off t) (te := tM X W.off m) hr hg hm TB hcode hi S hN hs hgI htI heI hse).to fun σ H Q q => tAny_of hP hsub q
theorem se_all (hP : W.tb.tab j = P) (hr : Room (k + 1) X.A) (hg : Gl X "all") (hm : X.mg "all" = none) (TB : TabB X.base X.mg c P) (hcode : X.env.code = .ref c) (hi : SI X W tg iter mi) (S : GScope X scope own) (hN : X.N.Nodup)
    (hgI : InGen X k elt tg iter ifs scope gpos fun Z => SG Z ws tg g) (htI : InGen X k elt tg iter ifs scope gpos fun Z => SP1 Z W.off ifs t) (heI : InGen X k elt tg iter ifs scope gpos fun Z => SE Z W.off elt m)
    (hv : own.map (·.2) = vs := by rfl) (hsub : ∀ i ∈ ws, i ∈ vs := by decide) (hs : ∀ v, genFold iter X.env v = pure v := by intro _; rfl)
    (hse : starEach [.GeneratorExp elt [⟨tg, iter, ifs, 0⟩] scope gpos] X.env = (false, eval (.GeneratorExp elt [⟨tg, iter, ifs, 0⟩] scope gpos) X.env) :: starEach [] X.env := by rfl) :
    SE X W (.Call (.Name "all" p) [.GeneratorExp elt [⟨tg, iter, ifs, 0⟩] scope gpos] [] pos) (mAny false j vs mi g t m) := by
  subst hv
  exact (pe_allG (g := tMG X ws g) (tt := tMT X W.off t) (te := tM X W.off m) hr hg hm TB hcode hi S hN hs hgI htI heI hse).to fun σ H Q q => tAny_of hP hsub q
end
end Sm

set_option Elab.async false
set_option linter.all false
set_option autoImplicit false
set_option maxRecDepth 100000
set_option maxHeartbeats 2000000
/-! Sm12: zip of two, each a list or a tuple. -/
namespace Sm
open PySem L2 Evl PyProof.Rows
/-- true: a tuple's, false: a list's -/
def ItK : Bool → Heap → Addr → Addr → Nat → Prop
  | true, h, i, l, k => h.IsTupleIter i l k
  | false, h, i, l, k => h.IsListIter i l k
def SqK : Bool → Heap → Addr → Array Value → Prop
  | true, h, l, xs => h.IsTuple l xs
  | false, h, l, xs => h.IsList l xs
theorem ItK.far {t : Bool} {h h' : Heap} {i l c : Addr} {k : Nat} (x : ItK t h i l k) (e : Heap.ExtBut c h h') (n : i ≠ c) : ItK t h' i l k := by
  cases t
  · exact Heap.IsListIter.extBut x e n
  · exact Heap.IsTupleIter.extBut x e n
theorem SqK.far {t : Bool} {h h' : Heap} {l c : Addr} {xs : Array Value} (x : SqK t h l xs) (e : Heap.ExtBut c h h') (n : l ≠ c) : SqK t h' l xs := by
  cases t
  · exact Heap.IsList.extBut x e n
  · exact Heap.IsTuple.extBut x e n
theorem ItK.obj {t : Bool} {h : Heap} {i l : Addr} {k : Nat} (x : ItK t h i l k) : ∃ o, h.get? i = some o ∧ ∀ v, o.data ≠ .cell v := by
  cases t
  · obtain ⟨o, e, _, d⟩ := x; exact ⟨o, e, fun v z => by rw [d] at z; cases z⟩
  · obtain ⟨o, e, _, d⟩ := x; exact ⟨o, e, fun v z => by rw [d] at z; cases z⟩
theorem ItK.to {t : Bool} {h h' : Heap} {i l : Addr} {k : Nat} (x : ItK t h i l k) (e : ∀ o, h.get? i = some o → h'.get? i = some o) : ItK t h' i l k := by
  cases t
  · exact Heap.IsListIter.at x e
  · exact Heap.IsTupleIter.at x e
section
variable {prog : Program} {w : World} {A : Around} {E : Value → Shared → Prop} {s : Shared} {t1 t2 : Bool} {z TI TO i1 i2 l1 l2 : Addr} {k1 k2 : Nat} {xs ys : Array Value} {x y a b : Value}
theorem nextK {t : Bool} {i l : Addr} {k : Nat} {us : Array Value} {u : Value} {Q : Value → Shared → Prop} (hi : ItK t s.heap i l k) (hl : SqK t s.heap l us) (hu : us[k]? = some u) (hQ : ∀ h', ItK t h' i l (k + 1) → Heap.SameBut i s.heap h' → Q u { s with heap := h' }) :
    wpAny (model prog w) A (Builtin.SmallTypes.nextOf (.ref i)) Q E s := by
  cases t
  · exact wpAny_nextOf_list_item hi hl hu hQ
  · exact RZ.nextOf_tuple_item hi hl hu hQ
theorem haltK {t : Bool} {i l : Addr} {k : Nat} {us : Array Value} {Q : Value → Shared → Prop} (hh : A.handled = none) (hi : ItK t s.heap i l k) (hl : SqK t s.heap l us) (hu : us[k]? = none)
    (hE : ∀ h' e, Heap.ExtBut i s.heap h' → (∃ o, h'.get? e = some o ∧ o.cls = .type "StopIteration") → E (.ref e) { s with heap := h' }) : wpAny (model prog w) A (Builtin.SmallTypes.nextOf (.ref i)) Q E s := by
  cases t
  · exact wpAny_nextOf_list_end hh hi hl hu hE
  · exact RZ.nextOf_tuple_end hh hi hl hu hE
/-- what one turn of the zip leaves -/
def Tup2 (hp h' : Heap) (t1 t2 : Bool) (z TI TO i1 i2 l1 l2 : Addr) (k1 k2 : Nat) (x y : Value) : Prop :=
  IsZip h' z TI TO (rawInt hp.objs.size) ∧ IsPair h' TO x y ∧ ItK t1 h' i1 l1 (k1 + 1) ∧ ItK t2 h' i2 l2 (k2 + 1) ∧ IsPair h' hp.objs.size x y ∧ h'.objs.size = hp.objs.size + 1 ∧ ∀ c o, c ≠ z → c ≠ TO → c ≠ i1 → c ≠ i2 → hp.get? c = some o → h'.get? c = some o
theorem zipK_item {Q : Value → Shared → Prop} (D : ZipApart z TI TO i1 i2 l1 l2) (hZ : IsZip s.heap z TI TO .none) (hI : IsPair s.heap TI (.ref i1) (.ref i2)) (hO : IsPair s.heap TO a b) (j1 : ItK t1 s.heap i1 l1 k1) (j2 : ItK t2 s.heap i2 l2 k2) (s1 : SqK t1 s.heap l1 xs) (s2 : SqK t2 s.heap l2 ys)
    (ex : xs[k1]? = some x) (ey : ys[k2]? = some y) (hQ : ∀ h', Tup2 s.heap h' t1 t2 z TI TO i1 i2 l1 l2 k1 k2 x y → Q (.ref s.heap.objs.size) { s with heap := h' }) :
    wpAny (model prog w) A (Builtin.«zip.__next__» ⟨[.ref z], []⟩) (fun f s' => ∃ v, f = .done (.ret v) ∧ Q v s') E s := by
  show wpAny _ _ (field (.ref z) 2 >>= _) _ _ s
  refine wpAny_bind (wpAny_field hZ rfl (x := .bool false) rfl ?_); show wpAny _ _ (field (.ref z) 3 >>= _) _ _ s
  refine wpAny_bind (wpAny_field hZ rfl (x := .ref TI) rfl (wpAny_bind (wpAny_seqItems hI rfl ?_)))
  show wpAny _ _ (Builtin.SmallTypes.ownedTupleIsFree (.ref z) >>= _) _ _ s
  refine wpAny_bind ?_; unfold Builtin.SmallTypes.ownedTupleIsFree
  refine wpAny_bind (wpAny_field hZ rfl (x := .none) rfl (wpAny_pure ?_)); simp only [if_true]
  refine wpAny_bind (wpAny_rule (wpAny_bind (wpAny_field hZ rfl (x := .ref TO) rfl (wpAny_bind (wpAny_setField_rec hZ (by simp) fun hA zA sA => ?_)))))
  replace zA : IsZip hA z TI TO .ellipsis := zA
  refine wpAny_bind ?_; simp only [List.zipIdx_cons, List.zipIdx_nil, List.forIn_cons, List.forIn_nil]
  refine wpAny_bind (wpAny_bind (wpAny_onRaise ?_)); show wpAny _ _ (Builtin.SmallTypes.nextOf (.ref i1) >>= _) _ _ _
  refine wpAny_bind (nextK (j1.far sA.extBut D.i1z) (s1.far sA.extBut D.l1z) ex fun hB jB sB => wpAny_pure ?_)
  have oB : IsPair hB TO a b := sB.extBut _ _ D.TOi1 (sA.extBut _ _ D.TOz hO)
  refine wpAny_bind (wpAny_seqItems oB rfl (wpAny_bind (wpAny_updateSeq_pair oB fun hC oC sC => ?_)))
  replace oC : IsPair hC TO x b := oC
  refine wpAny_bind (wpAny_letGo (wpAny_pure (wpAny_bind (wpAny_bind (wpAny_onRaise ?_))))); show wpAny _ _ (Builtin.SmallTypes.nextOf (.ref i2) >>= _) _ _ _
  refine wpAny_bind (nextK (((j2.far sA.extBut D.i2z).far sB.extBut D.i12.symm).far sC.extBut D.TOi2.symm) (((s2.far sA.extBut D.l2z).far sB.extBut D.l2i1).far sC.extBut D.l2TO) ey fun hD jD sD => wpAny_pure ?_)
  have oD : IsPair hD TO x b := sD.extBut _ _ D.TOi2 oC
  refine wpAny_bind (wpAny_seqItems oD rfl (wpAny_bind (wpAny_updateSeq_pair oD fun hF oF sF => ?_)))
  replace oF : IsPair hF TO x y := oF
  refine wpAny_bind (wpAny_letGo (wpAny_pure (wpAny_pure (wpAny_bind (wpAny_seqItems oF rfl (wpAny_bind (wpAny_newTuple ?_)))))))
  have size : hF.objs.size = s.heap.objs.size := by rw [sF.1, sD.1, sC.1, sB.1, sA.1]
  have zF : IsZip hF z TI TO .ellipsis := sF.extBut _ _ D.TOz.symm (sD.extBut _ _ D.i2z.symm (sC.extBut _ _ D.TOz.symm (sB.extBut _ _ D.i1z.symm zA)))
  have kF : ∀ c o, c ≠ z → c ≠ TO → c ≠ i1 → c ≠ i2 → s.heap.get? c = some o → hF.get? c = some o := fun c o c1 c2 c3 c4 e => sF.extBut _ _ c2 (sD.extBut _ _ c4 (sC.extBut _ _ c2 (sB.extBut _ _ c3 (sA.extBut _ _ c1 e))))
  have jF1 : ItK t1 hF i1 l1 (k1 + 1) := ((jB.far sC.extBut D.TOi1.symm).far sD.extBut D.i12).far sF.extBut D.TOi1.symm
  have jF2 : ItK t2 hF i2 l2 (k2 + 1) := jD.far sF.extBut D.TOi2.symm
  have zlt : z < hF.objs.size := Heap.lt_size zF
  show wpAny _ _ (Builtin.SmallTypes.ownedTupleHandOut (.ref z) (.ref hF.objs.size) >>= _) _ _ _
  refine wpAny_bind ?_; unfold Builtin.SmallTypes.ownedTupleHandOut
  have zG : IsZip (hF.push { cls := .type "tuple", data := .seq #[x, y] }) z TI TO .ellipsis := Heap.get?_push_of_some _ zF
  refine wpAny_bind (wpAny_setField_rec zG (by simp) fun hJ zJ sJ => ?_)
  replace zJ : IsZip hJ z TI TO (rawInt hF.objs.size) := zJ
  refine wpAny_setField_rec zJ (by simp) fun hL zL sL => ?_
  replace zL : IsZip hL z TI TO (rawInt hF.objs.size) := zL
  have up : ∀ c o, c ≠ z → hF.get? c = some o → hL.get? c = some o := fun c o c1 e => sL.extBut _ _ c1 (sJ.extBut _ _ c1 (Heap.get?_push_of_some _ e))
  have tL : IsPair hL hF.objs.size x y := sL.extBut _ _ (Nat.ne_of_gt zlt) (sJ.extBut _ _ (Nat.ne_of_gt zlt) (Heap.get?_push_size _ rfl))
  have zzL : hL.objs.size = hF.objs.size + 1 := by rw [sL.1, sJ.1, Heap.size_push]
  rw [size] at zL tL zzL
  refine wpAny_pure ⟨_, rfl, ?_⟩
  show Q (.ref hF.objs.size) _
  rw [size]
  exact hQ hL ⟨zL, up _ _ D.TOz oF, jF1.to fun o e => up _ o D.i1z e, jF2.to fun o e => up _ o D.i2z e, tL, zzL, fun c o c1 c2 c3 c4 e => up c o c1 (kF c o c1 c2 c3 c4 e)⟩
theorem zipK_end {Q : PySem.Fin → Shared → Prop} (hh : A.handled = none) (D : ZipApart z TI TO i1 i2 l1 l2) (hZ : IsZip s.heap z TI TO .none) (hI : IsPair s.heap TI (.ref i1) (.ref i2)) (hO : IsPair s.heap TO a b) (j1 : ItK t1 s.heap i1 l1 k1) (j2 : ItK t2 s.heap i2 l2 k2) (s1 : SqK t1 s.heap l1 xs) (s2 : SqK t2 s.heap l2 ys)
    (hend : xs[k1]? = none ∨ ys[k2]? = none) (hE : ∀ h' e, (∀ c o, c ≠ z → c ≠ TO → c ≠ i1 → c ≠ i2 → s.heap.get? c = some o → h'.get? c = some o) → (∃ o, h'.get? e = some o ∧ o.cls = .type "StopIteration") → E (.ref e) { s with heap := h' }) :
    wpAny (model prog w) A (Builtin.«zip.__next__» ⟨[.ref z], []⟩) Q E s := by
  show wpAny _ _ (field (.ref z) 2 >>= _) _ _ s
  refine wpAny_bind (wpAny_field hZ rfl (x := .bool false) rfl ?_); show wpAny _ _ (field (.ref z) 3 >>= _) _ _ s
  refine wpAny_bind (wpAny_field hZ rfl (x := .ref TI) rfl (wpAny_bind (wpAny_seqItems hI rfl ?_)))
  show wpAny _ _ (Builtin.SmallTypes.ownedTupleIsFree (.ref z) >>= _) _ _ s
  refine wpAny_bind ?_; unfold Builtin.SmallTypes.ownedTupleIsFree
  refine wpAny_bind (wpAny_field hZ rfl (x := .none) rfl (wpAny_pure ?_)); simp only [if_true]
  refine wpAny_bind (wpAny_rule (wpAny_bind (wpAny_field hZ rfl (x := .ref TO) rfl (wpAny_bind (wpAny_setField_rec hZ (by simp) fun hA zA sA => ?_)))))
  replace zA : IsZip hA z TI TO .ellipsis := zA
  refine wpAny_bind ?_; simp only [List.zipIdx_cons, List.zipIdx_nil, List.forIn_cons, List.forIn_nil]
  refine wpAny_bind (wpAny_bind (wpAny_onRaise ?_)); show wpAny _ _ (Builtin.SmallTypes.nextOf (.ref i1) >>= _) _ _ _
  cases ex : xs[k1]? with
  | none =>
    refine wpAny_bind (haltK hh (j1.far sA.extBut D.i1z) (s1.far sA.extBut D.l1z) ex fun hB e sB he => ?_)
    obtain ⟨oe, hoe, hce⟩ := he
    have zB : IsZip hB z TI TO .ellipsis := sB _ _ D.i1z.symm zA
    have hez : e ≠ z := fun q => by subst q; rw [zB] at hoe; cases hoe; simp at hce
    exact wpAny_setField_rec zB (by simp) fun hC _ sC => hE hC e (fun c o c1 _ c3 _ q => sC.extBut _ _ c1 (sB _ _ c3 (sA.extBut _ _ c1 q))) ⟨oe, sC.extBut _ _ hez hoe, hce⟩
  | some x =>
    have ey : ys[k2]? = none := by rcases hend with q | q; rw [ex] at q; cases q; exact q
    refine wpAny_bind (nextK (j1.far sA.extBut D.i1z) (s1.far sA.extBut D.l1z) ex fun hB jB sB => wpAny_pure ?_)
    have oB : IsPair hB TO a b := sB.extBut _ _ D.TOi1 (sA.extBut _ _ D.TOz hO)
    refine wpAny_bind (wpAny_seqItems oB rfl (wpAny_bind (wpAny_updateSeq_pair oB fun hC oC sC => ?_)))
    refine wpAny_bind (wpAny_letGo (wpAny_pure (wpAny_bind (wpAny_bind (wpAny_onRaise ?_))))); show wpAny _ _ (Builtin.SmallTypes.nextOf (.ref i2) >>= _) _ _ _
    refine wpAny_bind (haltK hh (((j2.far sA.extBut D.i2z).far sB.extBut D.i12.symm).far sC.extBut D.TOi2.symm) (((s2.far sA.extBut D.l2z).far sB.extBut D.l2i1).far sC.extBut D.l2TO) ey fun hD e sD he => ?_)
    obtain ⟨oe, hoe, hce⟩ := he
    have zD : IsZip hD z TI TO .ellipsis := sD _ _ D.i2z.symm (sC.extBut _ _ D.TOz.symm (sB.extBut _ _ D.i1z.symm zA))
    have hez : e ≠ z := fun q => by subst q; rw [zD] at hoe; cases hoe; simp at hce
    exact wpAny_setField_rec zD (by simp) fun hF _ sF => hE hF e (fun c o c1 c2 c3 c4 q => sF.extBut _ _ c1 (sD _ _ c4 (sC.extBut _ _ c2 (sB.extBut _ _ c3 (sA.extBut _ _ c1 q))))) ⟨oe, sF.extBut _ _ hez hoe, hce⟩
theorem pyNext_zipK {Q : Option Value → Shared → Prop} (D : ZipApart z TI TO i1 i2 l1 l2) (hZ : IsZip s.heap z TI TO .none) (hI : IsPair s.heap TI (.ref i1) (.ref i2)) (hO : IsPair s.heap TO a b) (j1 : ItK t1 s.heap i1 l1 k1) (j2 : ItK t2 s.heap i2 l2 k2) (s1 : SqK t1 s.heap l1 xs) (s2 : SqK t2 s.heap l2 ys)
    (ex : xs[k1]? = some x) (ey : ys[k2]? = some y) (hQ : ∀ h', Tup2 s.heap h' t1 t2 z TI TO i1 i2 l1 l2 k1 k2 x y → Q (some (.ref s.heap.objs.size)) { s with heap := h' }) : wpAny (model prog w) A (pyNext (.ref z)) Q E s := by
  have hT : s.TypeIs (.ref z) "zip" := ⟨_, hZ, rfl⟩
  unfold pyNext
  exact wpAny_bind (wpAny_attempt (wpAny_callSpecial?_slot (name := Str.ofString "__next__") hT F.slot_zip_next (wpAny_call_entry F.slot_zip_next hT F.entry_zip_next (zipK_item D hZ hI hO j1 j2 s1 s2 ex ey fun h' q => wpAny_pure (hQ h' q)) (F.args_zip_next_1 _))))
theorem pyNext_zipK_end {Q : Option Value → Shared → Prop} (hh : A.handled = none) (D : ZipApart z TI TO i1 i2 l1 l2) (hZ : IsZip s.heap z TI TO .none) (hI : IsPair s.heap TI (.ref i1) (.ref i2)) (hO : IsPair s.heap TO a b) (j1 : ItK t1 s.heap i1 l1 k1) (j2 : ItK t2 s.heap i2 l2 k2) (s1 : SqK t1 s.heap l1 xs) (s2 : SqK t2 s.heap l2 ys)
    (hend : xs[k1]? = none ∨ ys[k2]? = none) (hQ : ∀ h', (∀ c o, c ≠ z → c ≠ TO → c ≠ i1 → c ≠ i2 → s.heap.get? c = some o → h'.get? c = some o) → Q none { s with heap := h' }) : wpAny (model prog w) A (pyNext (.ref z)) Q E s := by
  have hT : s.TypeIs (.ref z) "zip" := ⟨_, hZ, rfl⟩
  unfold pyNext
  refine wpAny_bind (wpAny_attempt (wpAny_callSpecial?_slot (name := Str.ofString "__next__") hT F.slot_zip_next (wpAny_call_entry F.slot_zip_next hT F.entry_zip_next (zipK_end hh D hZ hI hO j1 j2 s1 s2 hend fun h' e hk he => ?_) (F.args_zip_next_1 _))))
  obtain ⟨o, ho, hc⟩ := he
  exact wpAny_bind (wpAny_isInstance (T := "StopIteration") (b := true) ⟨o, ho, hc⟩ isSubtype_stop (wpAny_pure (hQ _ hk)))
/-- the iterator that a walk over a list, a tuple makes -/
def itO (t : Bool) (l : Addr) : Obj := { cls := .type (if t then "tuple_iterator" else "list_iterator"), data := .fields #[.ref l, .int 0 0] }
theorem pyIterK {t : Bool} {l : Addr} {us : Array Value} {Q : Value → Shared → Prop} (hl : SqK t s.heap l us) (hQ : Q (.ref s.heap.objs.size) { s with heap := s.heap.push (itO t l) }) : wpAny (model prog w) A (pyIter (.ref l)) Q E s := by
  cases t
  · exact wpAny_pyIter_list hl hQ
  · exact wpAny_pyIter_tuple hl hQ
end
abbrev zk1 (t1 : Bool) (h : Heap) (l1 : Addr) : Heap := h.push (itO t1 l1)
abbrev zk2 (t1 t2 : Bool) (h : Heap) (l1 l2 : Addr) : Heap := (zk1 t1 h l1).push (itO t2 l2)
abbrev zk3 (t1 t2 : Bool) (h : Heap) (l1 l2 : Addr) : Heap := (zk2 t1 t2 h l1 l2).push { cls := .type "tuple", data := .seq #[.ref h.objs.size, .ref (zk1 t1 h l1).objs.size] }
abbrev zk4 (t1 t2 : Bool) (h : Heap) (l1 l2 : Addr) : Heap := (zk3 t1 t2 h l1 l2).push { cls := .type "tuple", data := .seq #[.none, .none] }
abbrev zk5 (t1 t2 : Bool) (h : Heap) (l1 l2 : Addr) : Heap := (zk4 t1 t2 h l1 l2).push { cls := .type "zip", data := .fields #[.none, .bool false, .bool false, .ref (zk2 t1 t2 h l1 l2).objs.size, .ref (zk3 t1 t2 h l1 l2).objs.size] }
theorem SqK.push {t : Bool} {h : Heap} {l : Addr} {xs : Array Value} (x : SqK t h l xs) (o : Obj) : SqK t (h.push o) l xs := by
  cases t
  · exact Heap.IsList.push x o
  · exact Heap.IsTuple.push x o
theorem zipK_new (t1 t2 : Bool) (l1 l2 : Addr) (xs ys : Array Value) : Meets (Builtin.«zip.__new__» ⟨[.type "zip", .ref l1, .ref l2], []⟩) (fun _ R s => SqK t1 s.heap l1 xs ∧ SqK t2 s.heap l2 ys ∧
      R (.ok (.ret (.ref (zk4 t1 t2 s.heap l1 l2).objs.size))) { s with heap := zk5 t1 t2 s.heap l1 l2 }) :=
  .of_wp fun prog w A R s h => by
    obtain ⟨hp, g, d, tk, os⟩ := s; obtain ⟨q1, q2, h⟩ := h
    have hsub := sub_zip
    have L1 : SqK t1 (Shared.heap ⟨hp, g, d, tk, os⟩) l1 xs := q1
    have L2 : SqK t2 (Shared.heap ⟨hp.push (itO t1 l1), g, d, tk, os⟩) l2 ys := q2.push _
    wp_walk using pyIterK L1, pyIterK L2
    exact ⟨_, rfl, h⟩
section
variable {prog : Program} {w : World} {A : Around} {E : Value → Shared → Prop} {s : Shared} {t1 t2 : Bool} {l1 l2 : Addr} {xs ys : Array Value}
theorem call_zipK {Q : Value → Shared → Prop} (q1 : SqK t1 s.heap l1 xs) (q2 : SqK t2 s.heap l2 ys)
    (h : ∀ h', IsZip h' (s.heap.objs.size + 4) (s.heap.objs.size + 2) (s.heap.objs.size + 3) .none → IsPair h' (s.heap.objs.size + 2) (.ref s.heap.objs.size) (.ref (s.heap.objs.size + 1)) → IsPair h' (s.heap.objs.size + 3) .none .none →
      ItK t1 h' s.heap.objs.size l1 0 → ItK t2 h' (s.heap.objs.size + 1) l2 0 → (∀ c o, s.heap.get? c = some o → h'.get? c = some o) → Q (.ref (s.heap.objs.size + 4)) { s with heap := h' }) :
    wpAny (model prog w) A (call (.type "zip") [.ref l1, .ref l2]) Q E s := by
  refine callType_new F.called_zip (by decide) (F.typeCall_zip_2 _ _) (F.newCall_zip_2 _ _) (fun obj => F.args_object_init_3 obj _ _) F.entry_zip_new (zipK_new t1 t2 l1 l2 xs ys) ⟨q1, q2, ?_⟩
  have e1 : (zk1 t1 s.heap l1).objs.size = s.heap.objs.size + 1 := Heap.size_push ..
  have e2 : (zk2 t1 t2 s.heap l1 l2).objs.size = s.heap.objs.size + 2 := by rw [Heap.size_push, e1]
  have e3 : (zk3 t1 t2 s.heap l1 l2).objs.size = s.heap.objs.size + 3 := by rw [Heap.size_push, e2]
  have e4 : (zk4 t1 t2 s.heap l1 l2).objs.size = s.heap.objs.size + 4 := by rw [Heap.size_push, e3]
  have f5 : (zk5 t1 t2 s.heap l1 l2).get? (zk4 t1 t2 s.heap l1 l2).objs.size = some _ := Heap.get?_push_size _ rfl
  have f4 : (zk5 t1 t2 s.heap l1 l2).get? (zk3 t1 t2 s.heap l1 l2).objs.size = some _ := Heap.get?_push_of_some _ (Heap.get?_push_size _ rfl)
  have f3 : (zk5 t1 t2 s.heap l1 l2).get? (zk2 t1 t2 s.heap l1 l2).objs.size = some _ := Heap.get?_push_of_some _ (Heap.get?_push_of_some _ (Heap.get?_push_size _ rfl))
  have f2 : (zk5 t1 t2 s.heap l1 l2).get? (zk1 t1 s.heap l1).objs.size = some (itO t2 l2) := Heap.get?_push_of_some _ (Heap.get?_push_of_some _ (Heap.get?_push_of_some _ (Heap.get?_push_size _ rfl)))
  have f1 : (zk5 t1 t2 s.heap l1 l2).get? s.heap.objs.size = some (itO t1 l1) := Heap.get?_push_of_some _ (Heap.get?_push_of_some _ (Heap.get?_push_of_some _ (Heap.get?_push_of_some _ (Heap.get?_push_size _ rfl))))
  show _ ∧ _
  rw [e2, e3, e4] at f5; rw [e1, e2] at f3; rw [e3] at f4; rw [e1] at f2; rw [e4]
  refine ⟨⟨_, f5, rfl⟩, h _ f5 f3 f4 ?_ ?_ fun c o q => Heap.get?_push_of_some _ (Heap.get?_push_of_some _ (Heap.get?_push_of_some _ (Heap.get?_push_of_some _ (Heap.get?_push_of_some _ q))))⟩
  · cases t1
    · exact ⟨_, f1, rfl, rfl⟩
    · exact ⟨_, f1, rfl, rfl⟩
  · cases t2
    · exact ⟨_, f2, rfl, rfl⟩
    · exact ⟨_, f2, rfl, rfl⟩
end
/-- a list or tuple that is read -/
def SqV (t : Bool) (K : PySem.W.Frag) (H : Hp) (a : Addr) (xs : List V) : Prop := match t with
  | true => SqT K H a xs
  | false => SqL K H a xs
theorem SqV.at {X : Cx} {pins : List (Addr × Obj)} {σ : L2.St} {H : Hp} {s : Shared} {t : Bool} {a : Addr} {xs : List V} (I : Inv X pins σ H s) (h : SqV t X.K H a xs) : ∃ its : List Value, Vals xs its ∧ SqK t s.heap a its.toArray ∧ a < s.heap.objs.size := by
  cases t
  · obtain ⟨its, r, p, _⟩ := I.list h; exact ⟨its, r, p.isList, p.lt⟩
  · obtain ⟨its, r, p, _⟩ := I.tuple h
    refine ⟨its, r, p, ?_⟩
    obtain ⟨o, e, _⟩ := id p
    exact Heap.lt_size e
theorem SqV.one {X : Cx} {pins : List (Addr × Obj)} {σ : L2.St} {H : Hp} {s : Shared} {t : Bool} {a : Addr} {xs ys : List V} (I : Inv X pins σ H s) (h : SqV t X.K H a xs) (h' : SqV t X.K H a ys) : xs = ys := by
  cases t
  · exact I.list_inj h h'
  · exact I.tuple_inj h h'
/-- the two as they stand at each turn, the items in new pairs -/
def ItzK (K : PySem.W.Frag) (t1 t2 : Bool) (a b : Addr) : It :=
  ⟨fun i H => ∃ (xs ys : List V) (x y : V), SqV t1 K H a xs ∧ SqV t2 K H b ys ∧ xs[i]? = some x ∧ ys[i]? = some y,
    fun i H v H' => ∃ T x y, v = .ref T ∧ H T = none ∧ H' = upd H T (.tup [x, y]) ∧ (∀ xs, SqV t1 K H a xs → xs[i]? = some x) ∧ ∀ ys, SqV t2 K H b ys → ys[i]? = some y,
    fun i H => ∃ xs ys : List V, SqV t1 K H a xs ∧ SqV t2 K H b ys ∧ (xs.length ≤ i ∨ ys.length ≤ i)⟩
theorem turn_zipK {P : Program} {w : World} {K : PySem.W.Frag} {elts : List Expr} {kk : Nat} {tpos : Pos} {t1 t2 : Bool} {a b z TI TO i1 i2 : Addr} (D : ZipApart z TI TO i1 i2 a b) :
    Turn P w K (.Tuple elts kk tpos) (ItzK K t1 t2 a b) [z, TI, TO, i1, i2] z (fun i h => IsZip h z TI TO .none ∧ IsPair h TI (.ref i1) (.ref i2) ∧ (∃ x y, IsPair h TO x y) ∧ ItK t1 h i1 a i ∧ ItK t2 h i2 b i) where
  mem := by simp
  obj := fun i h st c hc => by
    obtain ⟨q1, q2, ⟨x, y, q3⟩, q4, q5⟩ := st
    have e' : c = z ∨ c = TI ∨ c = TO ∨ c = i1 ∨ c = i2 := by simpa using hc
    rcases e' with rfl | rfl | rfl | rfl | rfl
    · exact ⟨_, q1, fun v q => nomatch q⟩
    · exact ⟨_, q2, fun v q => nomatch q⟩
    · exact ⟨_, q3, fun v q => nomatch q⟩
    · exact q4.obj
    · exact q5.obj
  keep := fun i h h' st k => by
    obtain ⟨q1, q2, ⟨x, y, q3⟩, q4, q5⟩ := st
    exact ⟨k z (by simp) _ q1, k TI (by simp) _ q2, ⟨x, y, k TO (by simp) _ q3⟩, q4.to fun o q => k i1 (by simp) o q, q5.to fun o q => k i2 (by simp) o q⟩
  item := by
    intro X hP hw hK hc i pins s σ H E I hf st hg
    subst hP hw hK
    obtain ⟨q1, q2, ⟨x0, y0, q3⟩, q4, q5⟩ := st
    obtain ⟨xs, ys, x, y, gx, gy, hx, hy⟩ := hg
    obtain ⟨its, rv, p, _⟩ := gx.at I
    obtain ⟨its2, rv2, p2, _⟩ := gy.at I
    obtain ⟨u, hu, ru⟩ := rv.get hx
    obtain ⟨u2, hu2, ru2⟩ := rv2.get hy
    have zl : z < s.heap.objs.size := Heap.lt_size q1
    refine pyNext_zipK D q1 q2 q3 q4 q5 p p2 (x := u) (y := u2) (by simpa using hu) (by simpa using hu2) fun h' T2 => ?_
    obtain ⟨z', TO', n1, n2, hT, hsz, hk⟩ := T2
    refine ⟨_, rfl, wpAny_letOwnedTupleGo_zip (s := { s with heap := h' }) z' fun h'' z'' sb => ?_⟩
    have hT2 : h''.get? s.heap.objs.size = some { cls := .type "tuple", data := .seq #[u, u2] } := (sb.2 _ (Nat.ne_of_gt zl)).trans hT
    have new : ObjOk X.prog X.w (upd H s.heap.objs.size (.tup [x, y])) h'' s.heap.objs.size (.tup [x, y]) := ⟨by show 2 ≤ sizeLine; decide, [u, u2], .cons ru (.cons ru2 .nil), ⟨_, hT2, rfl, _, rfl⟩⟩
    have I1 : Inv X pins σ (upd H s.heap.objs.size (.tup [x, y])) { s with heap := h'' } :=
      I.turnedNew (t' := s.toks) (ch := [z, TI, TO, i1, i2]) (fun c o hb q => (sb.2 c (fun q' => hb (by simp [q']))).trans (hk c o (fun q' => hb (by simp [q'])) (fun q' => hb (by simp [q'])) (fun q' => hb (by simp [q'])) (fun q' => hb (by simp [q'])) q)) hf (Nat.le_refl _) new
    refine ⟨.ref s.heap.objs.size, _, I1, rfl, ⟨_, x, y, rfl, I.hok.fresh (Nat.le_refl _), rfl, fun l hl => by rw [hl.one I gx]; exact hx, fun l hl => by rw [hl.one I gy]; exact hy⟩, ⟨z'', ?_, ⟨u, u2, ?_⟩, ?_, ?_⟩, fun c hcm => ?_⟩
    · exact (sb.2 _ D.TIz).trans (hk _ _ D.TIz D.TITO D.TIi1 D.TIi2 q2)
    · exact (sb.2 _ D.TOz).trans TO'
    · exact n1.to fun o q => (sb.2 _ D.i1z).trans q
    · exact n2.to fun o q => (sb.2 _ D.i2z).trans q
    · have hlt : c < s.heap.objs.size := by
        have e' : c = z ∨ c = TI ∨ c = TO ∨ c = i1 ∨ c = i2 := by simpa using hcm
        rcases e' with rfl | rfl | rfl | rfl | rfl
        · exact zl
        · exact Heap.lt_size q2
        · exact Heap.lt_size q3
        · obtain ⟨_, e1, _⟩ := q4.obj; exact Heap.lt_size e1
        · obtain ⟨_, e2, _⟩ := q5.obj; exact Heap.lt_size e2
      rw [upd_ne (Nat.ne_of_lt hlt)]
      exact (hf c hcm).1
  done := by
    intro X hP hw hK hc i pins s σ H E I hf st hg
    subst hP hw hK
    obtain ⟨q1, q2, ⟨x0, y0, q3⟩, q4, q5⟩ := st
    obtain ⟨xs, ys, gx, gy, hend⟩ := hg
    obtain ⟨its, rv, p, _⟩ := gx.at I
    obtain ⟨its2, rv2, p2, _⟩ := gy.at I
    have l1 := rv.length
    have l2 := rv2.length
    have he : its.toArray[i]? = none ∨ its2.toArray[i]? = none := hend.elim (fun q => .inl (by simp; omega)) fun q => .inr (by simp; omega)
    exact pyNext_zipK_end (I.ok.hd hc) D q1 q2 q3 q4 q5 p p2 he fun h' hk => ⟨rfl, I.turnedL (t' := s.toks) (ch := [z, TI, TO, i1, i2]) (fun c o hb q => hk c o (fun q' => hb (by simp [q'])) (fun q' => hb (by simp [q'])) (fun q' => hb (by simp [q'])) (fun q' => hb (by simp [q'])) q) hf⟩
  self := fun A i s Q E st h => wpAny_pyIter_zip st.1 h
def iZipK (K : PySem.W.Frag) (ta : TA) : TI := fun σ H R => ta σ H fun vs H1 => ∃ t1 t2 a b xs ys, vs = [.ref a, .ref b] ∧ SqV t1 K H1 a xs ∧ SqV t2 K H1 b ys ∧ R (ItzK K t1 t2 a b) H1
theorem pi_zipK {X : Cx} {e e2 : Expr} {ta : TA} {p pos tpos : Pos} {elts : List Expr} {kk : Nat} (hg : Gl X "zip") (hm : X.mg "zip" = none) (ha : PA X [e, e2] ta)
    (hs : starEach [e, e2] X.env = (false, eval e X.env) :: starEach [e2] X.env := by rfl) (hpl : (backTo pos (starEach [e2] X.env)).any (·.1) = false := by rfl) : PI X (.Tuple elts kk tpos) (.Call (.Name "zip" p) [e, e2] [] pos) (iZipK X.K ta) := by
  refine ⟨fun pins s0 σ0 H0 R0 I0 q0 => Call_ (ld_blt I0 hg hm PyProof.Rows.boot_zip (PyProof.Rows.callWith_type1 (thn (ha.run pos pins s0 σ0 H0 _ I0 q0) fun us s1 q => ?_) hs hpl))⟩
  obtain ⟨vs, H1, I1, r1, t1, t2, a, b, xs, ys, rfl, gx, gy, q⟩ := q
  cases r1 with
  | cons r rr =>
    cases rr with
    | cons r' rr =>
      cases rr
      cases r
      cases r'
      obtain ⟨its, rv, p1, la⟩ := gx.at I1
      obtain ⟨its2, rv2, p2, lb⟩ := gy.at I1
      refine call_zipK p1 p2 fun h' z1 z2 z3 j1 j2 hk => wpAny_pyIter_zip z1 ?_
      have I2 : Inv X pins σ0 H1 { s1 with heap := h' } := I1.kept (t' := s1.toks) hk
      refine ⟨s1.heap.objs.size + 4, [s1.heap.objs.size + 4, s1.heap.objs.size + 2, s1.heap.objs.size + 3, s1.heap.objs.size, s1.heap.objs.size + 1], _, _, H1, rfl, I2, turn_zipK (PySem.W.ktu_apart s1.heap.objs.size a b la lb), ⟨z1, z2, ⟨_, _, z3⟩, j1, j2⟩, fun c hcm => ?_, q⟩
      have e' : c = s1.heap.objs.size + 4 ∨ c = s1.heap.objs.size + 2 ∨ c = s1.heap.objs.size + 3 ∨ c = s1.heap.objs.size ∨ c = s1.heap.objs.size + 1 := by simpa using hcm
      have hle : s1.heap.objs.size ≤ c := by rcases e' with rfl | rfl | rfl | rfl | rfl <;> omega
      exact I1.fpOk hle (I1.hok.fresh hle)
/-! ### its mirror -/
def zipD : List D → List D → List D
  | x :: xs, y :: ys => .tup [x, y] :: zipD xs ys
  | _, _ => []
theorem zipD_at : ∀ (xs ys : List D) (i : Nat) (d : D), (zipD xs ys)[i]? = some d → ∃ x y, xs[i]? = some x ∧ ys[i]? = some y ∧ d = .tup [x, y]
  | [], _, i, d, h => by simp [zipD] at h
  | _ :: _, [], i, d, h => by simp [zipD] at h
  | x :: xs, y :: ys, 0, d, h => by simp [zipD] at h; exact ⟨x, y, rfl, rfl, h.symm⟩
  | x :: xs, y :: ys, i + 1, d, h => by
    simp only [zipD, List.getElem?_cons_succ] at h ⊢
    exact zipD_at xs ys i d h
theorem zipD_len : ∀ (xs ys : List D), (zipD xs ys).length = min xs.length ys.length
  | [], _ => by simp [zipD]
  | _ :: _, [] => by simp [zipD]
  | x :: xs, y :: ys => by simp [zipD, zipD_len xs ys]
section
variable {X : Cx} {W : Wt} {e e2 : Expr} {mr : MA} {p pos tpos : Pos}
/-- a known list or tuple -/
def sqB (d : D) : Option (List D) := match d with
  | .lst ds => some ds
  | .tup ds => some ds
  | _ => none
theorem sqB_at {K : PySem.W.Frag} {B : Hp} {ι : List Addr} {d : D} {v : V} {ds : List D} (r : Rep K B ι d v) (h : sqB d = some ds) : ∃ t a vs, v = .ref a ∧ SqV t K B a vs ∧ RepL K B ι ds vs := by
  cases r with
  | tup hv rl => cases h; exact ⟨true, _, _, rfl, hv, rl⟩
  | lst hv rl => cases h; exact ⟨false, _, _, rfl, hv, rl⟩
  | _ => cases h
theorem SqV.grow {t : Bool} {K : PySem.W.Frag} {H H' : Hp} {a : Addr} {xs : List V} (e : Ex H H') (h : SqV t K H a xs) : SqV t K H' a xs := by
  cases t
  · exact ex_l e h
  · exact ex_t e h
theorem walkD_zip {B : Hp} {ι : List Addr} {t1 t2 : Bool} {a b : Addr} {vs ws : List V} {ds es : List D} (h1 : SqV t1 X.K B a vs) (r1 : RepL X.K B ι ds vs) (h2 : SqV t2 X.K B b ws) (r2 : RepL X.K B ι es ws) : WalkD X B ι (ItzK X.K t1 t2 a b) (zipD ds es) where
  go := fun i l g hi => by
    obtain ⟨x, y, e1, e2, _⟩ := zipD_at ds es i _ (List.getElem?_eq_getElem hi)
    obtain ⟨v, a1, _⟩ := r1.get e1
    obtain ⟨w, a2, _⟩ := r2.get e2
    exact ⟨vs, ws, v, w, h1.grow (l.ex.trans g.ex), h2.grow (l.ex.trans g.ex), a1, a2⟩
  stop := fun i l g hi => by
    rw [zipD_len] at hi
    refine ⟨vs, ws, h1.grow (l.ex.trans g.ex), h2.grow (l.ex.trans g.ex), ?_⟩
    rw [r1.length, r2.length]
    omega
  yld := fun i x H'' d l g hd hy => by
    obtain ⟨T, u, u2, rfl, hT, rfl, hx, hy⟩ := hy
    obtain ⟨d1, d2, e1, e2, rfl⟩ := zipD_at ds es i d hd
    obtain ⟨v, a1, b1⟩ := r1.get e1
    obtain ⟨w, a2, b2⟩ := r2.get e2
    have c1 := hx vs (h1.grow (l.ex.trans g.ex))
    have c2 := hy ws (h2.grow (l.ex.trans g.ex))
    rw [a1] at c1
    rw [a2] at c2
    cases c1
    cases c2
    obtain ⟨g2, l2⟩ := g.newB (o := .tup [u, u2]) hT
    exact ⟨_, l2, g2, .tup (st_of upd_same) (.cons ((b1.mono l).mono l2) (.cons ((b2.mono l).mono l2) .nil))⟩
def zip2 (ds : List D) : Option (List D) := match ds with
  | [a, b] => (sqB a).bind fun xs => (sqB b).map fun ys => zipD xs ys
  | _ => none
theorem si_zip {elts : List Expr} {kk : Nat} (hg : Gl X "zip") (hm : X.mg "zip" = none) (ha : SA X W [e, e2] mr)
    (hs : starEach [e, e2] X.env = (false, eval e X.env) :: starEach [e2] X.env := by rfl) (hpl : (backTo pos (starEach [e2] X.env)).any (·.1) = false := by rfl) : SI X W (.Tuple elts kk tpos) (.Call (.Name "zip" p) [e, e2] [] pos) (mItN zip2 mr) := (pi_zipK hg hm ha hs hpl).to fun σ H R q => by
  obtain ⟨ρ, A, F, B, ι, g, ev, q⟩ := q
  refine ⟨ρ, A, F, B, ι, g, ev, q.bind.imp fun ds A1 q1 B1 ι1 H1 vs l1 g1 r1 => ?_⟩
  obtain ⟨zs, hd, q2⟩ := q1.opt
  unfold zip2 at hd
  split at hd
  · simp only [Option.bind_eq_some_iff, Option.map_eq_some_iff] at hd
    obtain ⟨xs, h1, ys, h2, rfl⟩ := hd
    cases r1 with
    | cons ra r1 =>
      obtain ⟨w, rfl, rb⟩ := repL_one r1
      obtain ⟨t1, a, us, rfl, s1, m1⟩ := sqB_at ra h1
      obtain ⟨t2, b, us2, rfl, s2, m2⟩ := sqB_at rb h2
      exact ⟨t1, t2, a, b, us, us2, rfl, s1.grow g1.ex, s2.grow g1.ex, q2 B1 ι1 H1 _ l1 g1 (walkD_zip s1 m1 s2 m2)⟩
  · cases hd
end
end Sm

set_option Elab.async false
set_option linter.all false
set_option autoImplicit false
set_option maxRecDepth 100000
set_option maxHeartbeats 4000000
/-! Sm13: list * int, tuple * int, op= on names and fields, two names at once, dict of pairs, sorted of a dict. -/
namespace Sm
open PySem L2 Evl PySem.Spec PyProof.Rows
/-! ### tuple * 1 -/
theorem tuple_mul1 (l : Addr) (items : Array Value) (n : Nat) (dd : Option Addr) (sl : Array (Option Value)) (u : Tok) :
    Meets (Builtin.«tuple.__mul__» ⟨[.ref l, .int 1 u], []⟩) (fun _ R s => s.heap.get? l = some { cls := .type "tuple", dict := dd, data := .seq items n, slots := sl } ∧ R (.ok (.ret (Value.ref l))) s) :=
  .of_wp fun prog w A R s h => by
    obtain ⟨hp, g, d, tk, os⟩ := s
    obtain ⟨hl, h⟩ := h
    have f1 := AutoSeq1.idx_int
    have c1 : (items.isEmpty || (1 : Int) == 1) = true := by simp
    wp_walk using wpAny_loadPart' hl
    repeat (first
      | (refine wpAny_ite_true (decide_eq_true (by rw [c1])) ?_; wp_walk using wpAny_loadPart' hl))
    exact ⟨_, rfl, h⟩
def rRepT1 (K : PySem.W.Frag) : R2 := fun x y H Q => ∃ l xs, x = .ref l ∧ y = .int 1 ∧ SqT K H l xs ∧ Q (.ref l) H
def rRepTA (K : PySem.W.Frag) : R2 := fun x y H Q => rRepT K x y H Q ∨ rRepT1 K x y H Q
section
variable {X : Cx} {W : Wt} {a b c e o : Expr} {es : List Expr} {pos pos' p tpos : Pos} {ma mb mo : ME} {mr : MA} {x y f : Str}
theorem op_repT1 : OpR X (binaryOp .Mult) (rRepT1 X.K) := by
  intro pins s σ H x y v u Q I rx ry h
  obtain ⟨l, xs, rfl, rfl, hT, q⟩ := h
  cases rx
  obtain ⟨t, rfl⟩ := ry
  obtain ⟨its, r, ⟨⟨cls, dd, data, sl⟩, ho, hc, n, hd⟩, hs⟩ := I.tuple hT
  simp only at hc hd
  subst hc hd
  refine wpAny_binaryOp_repeat_ref (T := "tuple") (U := "int") (by decide) ⟨_, ho, rfl⟩ (fun s' => typeIs_int s' 1 t) noFill_tuple_mul F.fills_int_mul F.slot_int_rmul repeat_tuple F.slot_int_index.lookup
    (call_meets F.slot_int_rmul (typeIs_int s 1 t) F.entry_int_rmul (F.args_int_rmul_2 _ _) (int_rmul_tuple 1 t l its.toArray n dd sl)
      ⟨ho, rfl, ⟨_, ho, rfl⟩, call_meets F.slot_tuple_mul ⟨_, ho, rfl⟩ F.entry_tuple_mul (F.args_tuple_mul_2 _ _) (tuple_mul1 l its.toArray n dd sl t) ⟨ho, ?_⟩⟩)
  exact ⟨.ref l, H, I, rfl, q⟩
theorem op_repTA : OpR X (binaryOp .Mult) (rRepTA X.K) := by
  intro pins s σ H x y v u Q I rx ry h
  rcases h with h | h
  · exact op_repT pins s σ H x y v u Q I rx ry h
  · exact op_repT1 pins s σ H x y v u Q I rx ry h
theorem repL_flat {K : PySem.W.Frag} {B : Hp} {ι : List Addr} {ds : List D} {vs : List V} (r : RepL K B ι ds vs) : ∀ k : Nat, RepL K B ι (List.replicate k ds).flatten (List.replicate k vs).flatten
  | 0 => .nil
  | k + 1 => by
    rw [List.replicate_succ, List.replicate_succ, List.flatten_cons, List.flatten_cons]
    exact r.append (repL_flat r k)
def repT : Sto → D → D → Option D := fun _ x y => match x, y with
  | .tup ds, .int k => if decide (1 ≤ k) && decide (k ≤ 1000) && decide (1 ≤ ds.length) && decide (ds.length ≤ 1000) then some (.tup (List.replicate k.toNat ds).flatten) else none
  | _, _ => none
theorem op2_repT : Op2 X repT (rRepTA X.K) := by
  intro tb F B ι A H x y v u d Q g rx ry hf q
  unfold repT at hf
  split at hf
  · obtain ⟨h1, rfl⟩ := ite_some hf
    simp only [Bool.and_eq_true, decide_eq_true_eq] at h1
    cases ry
    cases rx with
    | tup hv rl =>
      rename_i k _ vs
      by_cases hk : k = 1
      · subst hk
        refine .inr ⟨_, _, rfl, rfl, ex_t g.ex hv, q B ι H _ Le.refl g (.tup hv ?_)⟩
        have := repL_flat rl 1
        simpa using rl
      · refine .inl ⟨_, _, _, rfl, rfl, ex_t g.ex hv, ?_, by omega, h1.1.1.2, by rw [rl.length]; exact h1.2, fun p hp => ?_⟩
        · intro z
          have := rl.length
          rw [z] at this
          simp at this
          omega
        · obtain ⟨g2, l2⟩ := g.newB (o := .tup (List.replicate k.toNat vs).flatten) hp
          exact q _ ι _ _ l2 g2 (.tup (st_of upd_same) ((repL_flat rl _).mono l2))
  · cases hf
theorem se_repT (ha : SE X W a ma) (hb : SE X W b mb) : SE X W (.BinOp a .Mult b pos) (mB repT ma mb) := se_op op_repTA op2_repT ha hb

/-! ### list * int -/
def repD (ds : List D) (k : Int) : Option (List D) := if decide (0 ≤ k) && szOk k.natAbs && szOk (ds.length * k.toNat) then some (List.replicate k.toNat ds).flatten else none
def mRepL (m : MA) (mb : ME) : MA := bd m fun ds => bd mb fun d => op (match d with | .int k => repD ds k | _ => none)
theorem Post.offF {α : Type} {σ : L2.St} {F B : Hp} {ι : List Addr} {r : Rz α} {p : Addr} {vs : List V} {k k' : α → Sto → Prop} (hF : F p = none) (h : Post X W σ F B ι r k) (hk : ∀ a A, k a A → k' a A) : Post X W σ (upd F p (.lst vs)) B ι r k' := by
  cases r with
  | ok d A => exact hk d A h
  | exc c A => exact fun B' ι' H' l g => h B' ι' H' l (g.off hF).1
  | no => exact h
theorem sl_rep (ha : SL X W a mr) (hb : SE X W b mb) : SL X W (.BinOp a .Mult b pos) (mRepL mr mb) := (pe_op op_rep ha hb).to fun σ H Q q => by
  obtain ⟨ρ, A, F, B, ι, g, ev, q⟩ := q
  refine ⟨ρ, A, F, B, ι, g, ev, q.bind.imp fun ds A1 q1 B1 ι1 H1 p vs l1 g1 hp hB hF hι r1 => ?_⟩
  refine ⟨ρ, A1, upd F p (.lst vs), B1, ι1, g1.under hp hB hι, ev.mono l1, ?_⟩
  refine Post.offF hF ((Post.bind q1).mono l1 fun _ _ z => z) fun d A2 q2 B2 ι2 H2 u l2 g2 r2 => ?_
  obtain ⟨k, hk, q3⟩ := Post.opt q2
  cases d <;> simp at hk
  rename_i i
  cases r2
  unfold repD at hk
  obtain ⟨h1, rfl⟩ := ite_some hk
  simp only [Bool.and_eq_true, decide_eq_true_eq] at h1
  have h62 : i.natAbs ≤ 100000 := of_decide_eq_true h1.1.2
  obtain ⟨g3, hp2, hB2, hι2⟩ := g2.off hF
  refine ⟨p, i, vs, rfl, rfl, hp2, by omega, by omega, by rw [r1.length]; exact szOk.le h1.2, fun p2 hp' => ?_⟩
  exact q3 B2 ι2 _ p2 _ (l1.trans l2) (g3.grow (Ex.new hp')) upd_same (fresh_back g3.ex hp') (fresh_back g3.fr hp') (g3.fresh hp') (repL_flat (r1.mono l2) _)

/-! ### name op= e, o.f op= e -/
def sAug (i : Nat) (m : ME) (f2 : Int → Int → Int) : MS := fun ρ A => match ρ[i]? with
  | some (some (.int k)) => bS m (fun d => fun ρ A => match d with | .int j => .nx (ρ.set i (some (.int (f2 k j)))) A | _ => .no) ρ A
  | _ => .no
theorem ss_aug {i : Nat} {opr : Operator} {f2 : Int → Int → Int} (ho : PIp X opr (ipI f2)) (hN : X.N.Nodup) (hi : X.N[i]? = some x) (hx : Loc X.env.scope x) (he : SE X W e ma) (hf : X.fn x = true ∨ X.env.scope.names.lookup x = some .local := by first | exact .inl rfl | exact .inr rfl | assumption) :
    SS X W (.AugAssign (.Name x pos') opr e pos) (sAug i ma f2) := (ps_aug hN hi hx he ho hf).to fun D σ H ⟨ρ, A, F, B, ι, g, ev, q⟩ => by
  unfold sAug at q
  split at q
  · rename_i k hk
    obtain ⟨v, hv, rv⟩ := ev.2 i _ hk
    refine ⟨v, hv, ρ, A, F, B, ι, g, ev, (PostS.bind ev q).imp fun d A1 q1 B1 ι1 H1 u l1 g1 r1 => ?_⟩
    cases d with
    | int j =>
      cases rv; cases r1
      exact ⟨_, _, rfl, rfl, q1 B1 ι1 H1 _ l1 g1 ((ev.mono l1).set i .int)⟩
    | _ => exact q1.elim
  · exact q.elim
theorem in_ip {opr : Operator} {f2 : Int → Int → Int} (ho : PIp X opr (ipI f2)) : InOp X opr (ipI f2) := fun pins s σ H x y u v Q I rx ry h => ho pins s σ H x y u v Q I rx ry h
/-- o.f op= e, of ints -/
def intFld (cs : List Str) (f : Str) (A : Sto) (d : D) : Option (Str × Int) := match d with
  | .ref n => match A[n]? with
    | some (.ins c fs) => if cs.contains c then (match fs.lookup f with | some (.int i) => some (c, i) | _ => none) else none
    | _ => none
  | _ => none
def augA (f2 : Int → Int → Int) (f c : Str) (i : Int) (d y : D) (A : Sto) : Option Sto := match y with
  | .int j => putA [c] f A d (.int (f2 i j))
  | _ => none
def sAugFC (cs : List Str) (mo mv : ME) (f : Str) (f2 : Int → Int → Int) : MS := bS mo fun d => bS (rd fun A => intFld cs f A d) fun ci => bS mv fun y => stO (augA f2 f ci.1 ci.2 d y)
theorem intFld_at {tb : Tb} {F B H : Hp} {ι : List Addr} {A : Sto} {d : D} {v : V} {cs : List Str} {c : Str} {i : Int} (hc : ClsOk X cs f) (g : Good X.K X.mg tb F B ι A H) (r : Rep X.K B ι d v) (h : intFld cs f A d = some (c, i)) :
    ∃ n a C dx fs, d = .ref n ∧ v = .ref a ∧ X.mg c = some (.ref C) ∧ H a = some (.ins C dx fs) ∧ Cls X.K C ∧ NoAttr X.K C f ∧ fs.lookup f = some (.int i) ∧ c ∈ cs := by
  unfold intFld at h
  cases r with
  | @ref n a hn =>
    simp only at h
    cases hA : A[n]? with
    | none => simp only [hA] at h; cases h
    | some ob =>
      cases ob with
      | ins c' fs =>
        simp only [hA] at h
        cases hcs : cs.contains c' with
        | false => rw [hcs, if_neg (by decide)] at h; cases h
        | true =>
          rw [hcs, if_pos rfl] at h
          obtain ⟨C, dx, vs, hC, hH, rr⟩ := g.obj n a _ hn hA
          cases hl : fs.lookup f with
          | none => rw [hl] at h; cases h
          | some dv =>
            rw [hl] at h
            cases dv with
            | int iv =>
              cases h
              obtain ⟨v', hv', rv'⟩ := zip_lookup rr hl
              cases rv'
              have hm : c ∈ cs := by simpa using hcs
              obtain ⟨k1, k2⟩ := hc c hm C hC
              exact ⟨n, a, C, dx, _, rfl, rfl, hC, hH, k1, k2, hv', hm⟩
            | _ => cases h
      | _ => simp only [hA] at h; cases h
  | _ => cases h
theorem put_go1 {c : Str} {F B : Hp} {ι : List Addr} {A A' : Sto} {H : Hp} {d y : D} {v u : V} {C : Addr} (hC : X.mg c = some (.ref C)) (g : Good X.K X.mg W.tb F B ι A H) (r : Rep X.K B ι d v) (ry : Rep X.K B ι y u) (hp : putA [c] x A d y = some A') :
    ∃ a dx fs, v = .ref a ∧ H a = some (.ins C dx fs) ∧ fs.length < 1000 ∧ Good X.K X.mg W.tb F B ι A' (upd H a (.ins C dx (putF x u fs))) := by
  unfold putA at hp
  cases d with
  | ref n =>
    simp only at hp
    cases hA : A[n]? with
    | none => rw [hA] at hp; cases hp
    | some o =>
      rw [hA] at hp
      cases o with
      | ins c' fs =>
        simp only at hp
        obtain ⟨hcs, rfl⟩ := ite_some hp
        simp only [Bool.and_eq_true, decide_eq_true_eq] at hcs
        have e : c' = c := by simpa using hcs.1
        subst e
        cases r with
        | @ref _ a hi =>
          obtain ⟨C', dx, vs, hC', hH, rr⟩ := g.obj n a _ hi hA
          rw [hC] at hC'
          cases hC'
          obtain ⟨ws, e1, e2⟩ := zip_put (f := x) ry rr
          refine ⟨a, dx, _, rfl, hH, ?_, g.wr hi hA rfl ⟨C, dx, ws, hC, by rw [upd_same, e1], e2⟩⟩
          have := rr.length
          simp only [List.length_zip, List.length_map] at *
          omega
      | _ => cases hp
  | _ => cases hp
theorem ss_augf {cs : List Str} {opr : Operator} {f2 : Int → Int → Int} (ho : PIp X opr (ipI f2)) (hc : ClsOk X cs f) (hm : SE X W o mo) (hv : SE X W e ma) : SS X W (.AugAssign (.Attribute o f tpos) opr e pos) (sAugFC cs mo ma f f2) :=
  (ps_fldaug hm hv (in_ip ho)).to fun D σ H ⟨ρ, A, F, B, ι, g, ev, q⟩ => ⟨ρ, A, F, B, ι, g, ev, (PostS.bind ev q).imp fun d A1 q1 B1 ι1 H1 v l1 g1 r1 => by
    have q2 := PostS.bind (X := X) (W := W) (σ := σ) (ev.mono l1) (PostS.mono l1 q1)
    obtain ⟨⟨c, i⟩, hi, q3⟩ := q2.rd
    obtain ⟨n, a, C, dx, fs, rfl, rfl, hC, hH, k1, k2, hl, hcs⟩ := intFld_at hc g1 r1 hi
    refine ⟨a, C, dx, _, _, rfl, hH, k1, k2, hl, ρ, A1, F, B1, ι1, g1, ev.mono l1, (PostS.bind (ev.mono l1) q3).imp fun y A2 q4 B2 ι2 H2 w l2 g2 r2 => ?_⟩
    have q4 : PostS X W F B1 ι1 (stO (augA f2 f c i (.ref n) y) ρ A2) D := q4
    unfold stO augA at q4
    cases y with
    | int j =>
      cases r2
      refine ⟨_, _, rfl, rfl, ?_⟩
      simp only at q4
      cases hp : putA [c] f A2 (.ref n) (.int (f2 i j)) with
      | none => simp only [hp] at q4; exact q4.elim
      | some A3 =>
        simp only [hp] at q4
        obtain ⟨a', dx', fs', e1, hH', k3, g3⟩ := put_go1 hC g2 (r1.mono l2) (u := .int (f2 i j)) .int hp
        cases e1
        exact ⟨dx', fs', hH', k3, q4 B2 ι2 _ σ l2 g3 ((ev.mono l1).mono l2)⟩
    | _ => simp only at q4; exact q4.elim⟩

/-! ### two names at once -/
def sPar (i j : Nat) (m : MA) : MS := bS m fun ds => fun ρ A => match ds with
  | [d, u] => .nx ((ρ.set i (some d)).set j (some u)) A
  | _ => .no
theorem ss_par {i j : Nat} {px py pt : Pos} {kt k2 pt2} (hc : X.calm = true) (hN : X.N.Nodup) (hi : X.N[i]? = some x) (hj : X.N[j]? = some y) (hij : i ≠ j)
    (hx : X.env.scope.names.lookup x = some .local) (hy : X.env.scope.names.lookup y = some .local) (ha : SA X W [a, b] mr)
    (hw : swappedStores [.Tuple [.Name x px, .Name y py] kt pt] (.Tuple [a, b] k2 pt2) X.env = pure (some [x, y]))
    (hs : swapsWithSole [.Tuple [.Name x px, .Name y py] kt pt] (.Tuple [a, b] k2 pt2) pos.line X.env = pure false := by rfl) :
    SS X W (.Assign [.Tuple [.Name x px, .Name y py] kt pt] (.Tuple [a, b] k2 pt2) pos) (sPar i j mr) := (ps_par hc hN hi hj hij hx hy ha hw hs).to fun D σ H ⟨ρ, A, F, B, ι, g, ev, q⟩ => ⟨ρ, A, F, B, ι, g, ev, (PostS.bind ev q).imp fun ds A1 q1 B1 ι1 H1 vs l1 g1 r1 => by
    cases r1 with
    | nil => exact q1.elim
    | cons h1 r1 =>
      cases r1 with
      | nil => exact q1.elim
      | cons h2 r1 =>
        cases r1 with
        | nil => exact ⟨_, _, rfl, q1 B1 ι1 H1 _ l1 g1 (((ev.mono l1).set i h1).set j h2)⟩
        | cons h3 r1 => exact q1.elim⟩

/-! ### dict(pairs), sorted(dict) -/
def keyOf : D → Option Key
  | .int i => some (.inl i)
  | .str x => some (.inr x)
  | _ => none
def pairOf : D → Option (Key × D)
  | .tup [k, v] => (keyOf k).map fun k => (k, v)
  | _ => none
def pairsOf : List D → Option (List (Key × D))
  | [] => some []
  | d :: ds => match pairOf d, pairsOf ds with
    | some p, some ps => some (p :: ps)
    | _, _ => none
def putKD (kvs : List (Key × D)) (k : Key) (v : D) : List (Key × D) :=
  if (kvs.any fun kv => decide (kv.1 = k)) = true then kvs.map (fun kv => if kv.1 = k then (kv.1, v) else kv) else kvs ++ [(k, v)]
def mergeKD (kvs more : List (Key × D)) : List (Key × D) := more.foldl (fun acc kv => putKD acc kv.1 kv.2) kvs
def unK (kvs : List (Key × D)) : List (D × D) := kvs.map fun kv => (keyD kv.1, kv.2)
/-- pairs of the same keys, the values represented -/
inductive RepKD (K : PySem.W.Frag) (B : Hp) (ι : List Addr) : List (Key × D) → List (Key × V) → Prop
  | nil : RepKD K B ι [] []
  | cons {k d v ds vs} (h : Rep K B ι d v) (r : RepKD K B ι ds vs) : RepKD K B ι ((k, d) :: ds) ((k, v) :: vs)
section
variable {K : PySem.W.Frag} {B : Hp} {ι : List Addr}
theorem RepKD.unK : ∀ {ds : List (Key × D)} {vs : List (Key × V)}, RepKD K B ι ds vs → RepK K B ι (Sm.unK ds) vs
  | _, _, .nil => .nil
  | _, _, .cons h r => .cons h r.unK
theorem RepKD.any (k : Key) : ∀ {ds : List (Key × D)} {vs : List (Key × V)}, RepKD K B ι ds vs → (vs.any fun kv => decide (kv.1 = k)) = (ds.any fun kv => decide (kv.1 = k))
  | _, _, .nil => rfl
  | _, _, .cons h r => by simp only [List.any_cons]; rw [RepKD.any k r]
theorem RepKD.upd (k : Key) {d : D} {v : V} (h : Rep K B ι d v) : ∀ {ds : List (Key × D)} {vs : List (Key × V)}, RepKD K B ι ds vs → RepKD K B ι (ds.map (fun kv => if kv.1 = k then (kv.1, d) else kv)) (vs.map (fun kv => if kv.1 = k then (kv.1, v) else kv))
  | _, _, .nil => .nil
  | _, _, @RepKD.cons _ _ _ k' d' v' ds vs h' r => by
    simp only [List.map_cons]
    by_cases hk : k' = k
    · rw [if_pos hk, if_pos hk]; exact .cons h (RepKD.upd k h r)
    · rw [if_neg hk, if_neg hk]; exact .cons h' (RepKD.upd k h r)
theorem RepKD.snoc (k : Key) {d : D} {v : V} (h : Rep K B ι d v) : ∀ {ds : List (Key × D)} {vs : List (Key × V)}, RepKD K B ι ds vs → RepKD K B ι (ds ++ [(k, d)]) (vs ++ [(k, v)])
  | _, _, .nil => .cons h .nil
  | _, _, .cons h' r => .cons h' (RepKD.snoc k h r)
theorem RepKD.put (k : Key) {d : D} {v : V} (h : Rep K B ι d v) {ds : List (Key × D)} {vs : List (Key × V)} (r : RepKD K B ι ds vs) : RepKD K B ι (putKD ds k d) (putK vs k v) := by
  unfold putKD putK
  rw [r.any k]
  split
  · exact r.upd k h
  · exact r.snoc k h
theorem RepKD.merge : ∀ {es : List (Key × D)} {ws : List (Key × V)} {ds : List (Key × D)} {vs : List (Key × V)}, RepKD K B ι es ws → RepKD K B ι ds vs → RepKD K B ι (mergeKD ds es) (mergeK vs ws)
  | _, _, _, _, .nil, r => r
  | _, _, ds, vs, @RepKD.cons _ _ _ k d v es ws h r', r => show RepKD K B ι (mergeKD (putKD ds k d) es) (mergeK (putK vs k v) ws) from RepKD.merge r' (r.put _ h)
end
theorem keyOf_rep {K : PySem.W.Frag} {B : Hp} {ι : List Addr} {d : D} {v : V} {k : Key} (r : Rep K B ι d v) (h : keyOf d = some k) : v = kV k := by
  cases r <;> simp [keyOf] at h <;> subst h <;> rfl
theorem pairs_rep {K : PySem.W.Frag} {B : Hp} {ι : List Addr} : ∀ {ds : List D} {vs : List V} {ps : List (Key × D)}, RepL K B ι ds vs → pairsOf ds = some ps →
    ∃ (as : List Addr) (kvs : List (Key × V)), vs = as.map V.ref ∧ Paired (fun p kv => SqT K B p [kV kv.1, kv.2]) as kvs ∧ RepKD K B ι ps kvs
  | _, _, _, .nil, h => by simp [pairsOf] at h; subst h; exact ⟨[], [], rfl, .nil, .nil⟩
  | _, _, _, @RepL.cons _ _ _ d v ds vs hd r, h => by
    unfold pairsOf at h
    cases h1 : pairOf d with
    | none => rw [h1] at h; cases h
    | some p =>
      cases h2 : pairsOf ds with
      | none => rw [h1, h2] at h; cases h
      | some ps =>
        rw [h1, h2] at h
        cases h
        obtain ⟨as, kvs, rfl, hp, rk⟩ := pairs_rep r h2
        unfold pairOf at h1
        split at h1
        · rename_i k dv
          simp only [Option.map_eq_some_iff] at h1
          obtain ⟨k', hk, rfl⟩ := h1
          cases hd with
          | @tup _ a us hv rl =>
            cases rl with
            | cons r1 rl =>
              cases rl with
              | cons r2 rl =>
                cases rl
                have e := keyOf_rep r1 hk
                subst e
                exact ⟨a :: as, (k', _) :: kvs, rfl, .cons hv hp, .cons r2 rk⟩
        · cases h1
theorem paired_ex {K : PySem.W.Frag} {B H : Hp} (e : Ex B H) : ∀ {as : List Addr} {kvs : List (Key × V)}, Paired (fun p kv => SqT K B p [kV kv.1, kv.2]) as kvs → Paired (fun p kv => SqT K H p [kV kv.1, kv.2]) as kvs
  | _, _, .nil => .nil
  | _, _, .cons h r => .cons (ex_t e h) (paired_ex e r)
/-- dict(list of pairs), a known dict -/
def dDictP : Sto → List D → Option D := fun A ds => match ds with
  | [d] => ((lstOf A d).bind pairsOf).map fun ps => .dct (unK (mergeKD [] ps))
  | _ => none
theorem opN_dictP : OpN X dDictP (fun xs H Q => ∃ (a : Addr) (ps : List Addr) (kvs : List (Key × V)), xs = [.ref a] ∧ SqL X.K H a (ps.map V.ref) ∧ Paired (fun p kv => SqT X.K H p [kV kv.1, kv.2]) ps kvs ∧ ∀ p, H p = none → Q (.ref p) (L2.upd H p (.dK (mergeK [] kvs)))) := by
  intro tb F B ι A H xs vs d Q g rp hf q
  unfold dDictP at hf
  split at hf
  · obtain ⟨v, rfl, rv⟩ := repL_one rp
    simp only [Option.map_eq_some_iff, Option.bind_eq_some_iff] at hf
    obtain ⟨ps, ⟨es, h1, h2⟩, rfl⟩ := hf
    obtain ⟨z, ws, rfl, hs, rl⟩ := lstOf_at g rv h1
    obtain ⟨as, kvs, rfl, hp, rk⟩ := pairs_rep rl h2
    refine ⟨z, as, kvs, rfl, hs, paired_ex g.ex hp, fun p hpn => ?_⟩
    obtain ⟨g2, l2⟩ := g.newB (o := .dK (mergeK [] kvs)) hpn
    exact q _ ι _ _ l2 g2 (.dctK upd_same ((RepKD.merge rk .nil).unK.mono l2))
  · cases hf
theorem se_dictP (hcalm : X.calm = true) (hg : Gl X "dict") (hm : X.mg "dict" = none) (ha : SA X W (e :: es) mr) (he : starEach (e :: es) X.env = (false, eval e X.env) :: starEach es X.env := by rfl) (hpl : (backTo pos (starEach es X.env)).any (·.1) = false := by rfl) :
    SE X W (.Call (.Name "dict" p) (e :: es) [] pos) (mN dDictP mr) := se_typ (T := "dict") (call_dictP hcalm) opN_dictP hg hm (by rfl) ha (by decide) (by decide) he hpl
/-- sorted(d), d of fewer than 64 ints -/
def intKeys : List (D × D) → Option (List Int)
  | [] => some []
  | (.int i, _) :: r => (intKeys r).map (i :: ·)
  | _ => none
theorem intKeys_rep {K : PySem.W.Frag} {B : Hp} {ι : List Addr} : ∀ {kvs : List (D × D)} {ws : List (Key × V)} {ks : List Int}, RepK K B ι kvs ws → intKeys kvs = some ks → ws.map (·.1) = ks.map Sum.inl
  | _, _, _, .nil, h => by simp [intKeys] at h; subst h; rfl
  | _, _, _, @RepK.cons _ _ _ k d v ds vs hd r, h => by
    cases k with
    | inl i =>
      simp only [keyD, intKeys, Option.map_eq_some_iff] at h
      obtain ⟨ks, h1, rfl⟩ := h
      simp only [List.map_cons]
      rw [intKeys_rep r h1]
    | inr x => simp [keyD, intKeys] at h
def dSortDI : Sto → List D → Option (List D) := fun _ ds => match ds with
  | [.dct kvs] => (intKeys kvs).bind fun ks => if decide (ks.length < 64) then some ((sortI ks).map .int) else none
  | _ => none
theorem opL_sortDI : OpL X dSortDI (fun xs H Q => ∃ (a : Addr) (kvs : List (Key × V)) (ks : List Int), xs = [.ref a] ∧ Rd H a (.dK kvs) ∧ kvs.map (·.1) = ks.map Sum.inl ∧ ks.length < 64 ∧
    ∀ (ys : List Int) (p : Addr), ys.Perm ks → ys.Pairwise (· ≤ ·) → H p = none → Q (.ref p) (L2.upd H p (.lst (ys.map V.int)))) := by
  intro tb F B ι A H xs vs ds Q g rp hf q
  unfold dSortDI at hf
  split at hf
  · obtain ⟨v, rfl, rv⟩ := repL_one rp
    simp only [Option.bind_eq_some_iff] at hf
    obtain ⟨ks, h1, h2⟩ := hf
    obtain ⟨h3, rfl⟩ := ite_some h2
    cases rv with
    | @dctK _ a ws ha r =>
      refine ⟨a, ws, ks, rfl, .of (g.ex _ _ ha), intKeys_rep r h1, of_decide_eq_true h3, fun ys p hp hs hn => ?_⟩
      rw [sortI_uniq hp hs]
      exact q p _ hn (repL_ints _)
  · cases hf
theorem sl_sortDI (hcalm : X.calm = true) (hg : Gl X "sorted") (hm : X.mg "sorted" = none) (ha : SA X W (e :: es) mr) (he : starEach (e :: es) X.env = (false, eval e X.env) :: starEach es X.env := by rfl) (hpl : (backTo pos (starEach es X.env)).any (·.1) = false := by rfl) :
    SL X W (.Call (.Name "sorted" p) (e :: es) [] pos) (mNL dSortDI mr) := sl_blt (id := "sorted") (call_sortedDI hcalm) opL_sortDI hg hm (by rfl) ha (by decide) (by decide) he hpl
end
end Sm

set_option Elab.async false
set_option linter.all false
set_option autoImplicit false
set_option maxRecDepth 100000
set_option maxHeartbeats 4000000
/-! Sm14: raise of an own error; a def that is told a lambda, and tells by a text what was raised. -/
namespace Sm
open PySem L2 Evl PySem.Spec PyProof.Rows LamX
/-- x is an own error class, made by a text -/
def EX1 (K : PySem.W.Frag) (mg : Str → Option Value) (x : Str) : Prop := ∃ (C : Addr) (bmB : List Value) (B newId initId : String), ExcBaseFacts B newId initId bmB ∧ PySem.W.excIn K C bmB newId = true ∧ mg x = some (.ref C) ∧ PySem.W.keepIn K (.ref C) = true ∧
  PySem.W.subIn K (.ref C) (.type "BaseException") = some true ∧ PySem.W.typeIn K (.ref C) = some (.type "type")
abbrev EX (X : Cx) (x : Str) : Prop := EX1 X.K X.mg x
theorem takesF {X : Cx} : Takes X (fun _ _ _ _ => False) := LamX.takes0
section
variable {X : Cx} {W : Wt} {x m : Str} {p p2 pos pos' : Pos} {j : Nat}
def sRaise (c : Str) : MS := fun ρ A => .exc c ρ A
theorem ss_raise (hc : X.calm = true) (tk : Takes X W.w) (hx : EX X x) (hg : Gl X x) (hdb : (x == ("__debug__" : Str)) = false := by decide) :
    SS X W (.Raise (some (.Call (.Name x p) [.Constant (.str m) j p2] [] pos)) none pos') (sRaise x) := by
  obtain ⟨C, bmB, B, newId, initId, F, q, gC, kC, e1, e2⟩ := hx
  exact (ps_raise hc tk (pmk_own F q gC kC (raises_own e1 e2) hg hdb)).to fun D σ H ⟨ρ, A, F, B, ι, g, ev, q⟩ => q B ι H σ Le.refl g ev _ gC
end
/-- the table that the making of a lambda leaves -/
structure LamMade (R : Addr → Prop) (H : Hp) (P : Addr) (q : Str) (c' : Addr) (H1 : Hp) : Prop where
  or : (H1 = H ∧ R c') ∨ ∃ qs : Array Value, H c' = none ∧ H1 = upd (upd H P (.tbl qs)) c' (CodeO c' q) ∧ TriplesOk qs.toList ∧ ∀ (pos : Pos) (cv : Value), codeAmong pos qs.toList = some cv → ∃ c, cv = .ref c ∧ (c = c' ∨ R c)
theorem codeO_tbl {c : Addr} {q : Str} {ps : Array Value} (h : CodeO c q = .tbl ps) : False := by
  unfold CodeO at h
  cases h
section
variable {X : Cx} {pins : List (Addr × Obj)} {σ : L2.St} {H : Hp} {s : Shared}
theorem lam_make3 {c P : Addr} {params : Arguments} {body : Expr} {scope : Scope} {pos : Pos} {E : Value → Shared → Prop} {Q : Value → Shared → Prop} {ps : Array Value} {R : Addr → Prop} (I : Inv X pins σ H s) (TB : TabB X.base X.mg c P) (hcode : X.env.code = .ref c)
    (hP : H P = some (.tbl ps)) (ht : TriplesOk ps.toList) (ha : ∀ (pos : Pos) (cv : Value), codeAmong pos ps.toList = some cv → ∃ c, cv = .ref c ∧ R c)
    (hdef : defaultsOf params X.env = ([], [])) (hfree : ∀ y ∈ scope.names, y.2 = .free → ∃ c, X.env.cells.lookup y.1 = some c)
    (h : ∀ (f c' : Addr) (pm ctv : Value) (H1 : Hp) (s' : Shared), Inv X pins σ H1 s' → LamMade R H P (X.env.qual ++ "<lambda>") c' H1 →
      s'.heap.get? f = some (PySem.W.kla_obj "<lambda>" (X.env.qual ++ "<lambda>") params body scope (cloFrom X.env.cells scope.names []) pm c' ctv) → H1 f = none → f ∉ frs X.stack → Q (.ref f) s') :
    wpAny (model X.prog X.w) X.A (eval (.Lambda params body scope pos) X.env) Q E s := by
  have bP : s.heap.BuiltinsAt X.mg P := TB.bm.keeps I.bk
  have hP' := I.hok P _ hP
  have out : ∀ f, s.heap.objs.size ≤ f → f ∉ frs X.stack := fun f hf z => by
    rcases List.mem_cons.mp (I.stkSub _ z) with e | e
    · exact absurd (Nat.lt_of_lt_of_le (e ▸ I.lt) hf) (Nat.lt_irrefl _)
    · exact I.nofs hf e
  refine PySem.W.kla_eval hdef ?_
  cases hc : codeAmong pos ps.toList with
  | some cv =>
    obtain ⟨c', rfl, hco⟩ := ha pos cv hc
    exact PySem.W.kla_makeFunctionHit (ps := ps) (closure_ok hfree) I.ok.glob (I.mod.glob.keeps I.bk) hcode (TB.code.keeps I.bk) hP' ht hc bP fun ctv h' tk hx hsz =>
      h _ c' _ ctv H _ (I.kept fun b o e => Heap.get?_push_of_some _ (hx b o e)) ⟨.inl ⟨rfl, hco⟩⟩ (Heap.get?_push_size _ rfl) (I.hok.fresh hsz) (out _ hsz)
  | none =>
    refine PySem.W.kla_makeFunction (ps := ps) (closure_ok hfree) I.ok.glob (I.mod.glob.keeps I.bk) hcode (TB.code.keeps I.bk) hP' ht hc TB.gP bP fun c' ctv h' tk hx hge hlt hrec htb => ?_
    obtain ⟨_, oc, vs, t, ec, hoc, hd, hv⟩ := hrec
    cases ec
    have nC : H c' = none := I.hok.fresh hge
    have nPc : P ≠ c' := ne_of_none hP nC
    have hsz : s.heap.objs.size ≤ h'.objs.size := Nat.le_trans hge (Nat.le_of_lt hlt)
    refine h h'.objs.size c' _ ctv _ _ (inv_table (t' := tk) (more := #[rawInt pos.line, rawInt pos.col, .ref c']) I hP (fun b o hb e => Heap.get?_push_of_some _ (hx b o hb e)) (Heap.get?_push_of_some _ htb) hge ⟨oc, vs, t, Heap.get?_push_of_some _ hoc, hd, hv⟩) ?_ (Heap.get?_push_size _ rfl) ?_ (out _ hsz)
    · have el : (ps ++ #[rawInt pos.line, rawInt pos.col, .ref c']).toList = ps.toList ++ [rawInt pos.line, rawInt pos.col, .ref c'] := by simp
      refine ⟨.inr ⟨_, nC, rfl, by rw [el]; exact PySem.TriplesOk_snoc _ _ _ _ ht, fun p' cv hcv => ?_⟩⟩
      rw [el] at hcv
      rcases among_app _ ht hcv with z | z
      · obtain ⟨c0, e1, e2⟩ := ha p' cv z
        exact ⟨c0, e1, .inr e2⟩
      · exact ⟨c', z, .inl rfl⟩
    · rw [upd_ne (Nat.ne_of_gt hlt), upd_ne (Nat.ne_of_gt (Nat.lt_of_lt_of_le (Heap.lt_size hP') hsz))]
      exact I.hok.fresh hsz
/-- the store behind it -/
theorem Good.lamMade {K : PySem.W.Frag} {mg : Str → Option Value} {tb : Tb} {F B : Hp} {ι : List Addr} {A : Sto} {P c' : Addr} {q : Str} {H1 : Hp} {n : Nat} (g : Good K mg tb F B ι A H) (hi : ι[n]? = some P) (hA : A[n]? = some (.tabL n q)) (M : LamMade (fun c => B c = some (CodeO c q)) H P q c' H1) :
    ∃ B1, Le B ι B1 ι ∧ Good K mg tb F B1 ι A H1 ∧ B1 c' = some (CodeO c' q) := by
  rcases M.or with ⟨rfl, hc⟩ | ⟨qs, hn, rfl, ht, ha⟩
  · exact ⟨B, Le.refl, g, hc⟩
  · obtain ⟨eP, ps', hps, htp, hap⟩ := g.obj n P _ hi hA
    have nPc : P ≠ c' := ne_of_none hps hn
    obtain ⟨g1, l1⟩ := g.newB (o := CodeO c' q) hn
    have e : upd (upd H P (.tbl qs)) c' (CodeO c' q) = upd (upd H c' (CodeO c' q)) P (.tbl qs) := funext fun b => by
      by_cases hb : b = c'
      · subst hb; rw [upd_same, upd_ne (Ne.symm nPc), upd_same]
      · rw [upd_ne hb]
        by_cases hb2 : b = P
        · subst hb2; rw [upd_same, upd_same]
        · rw [upd_ne hb2, upd_ne hb2, upd_ne hb]
    refine ⟨_, l1, ?_, upd_same⟩
    have := g1.wr (u := .tabL n q) (x := .tbl qs) hi hA rfl ⟨eP, qs, upd_same, ht, fun pos cv hc => ?_⟩
    · rw [set_same hA] at this
      rw [e]; exact this
    · obtain ⟨c0, e1, e2⟩ := ha pos cv hc
      refine ⟨c0, e1, ?_⟩
      rcases e2 with e2 | e2
      · subst e2; exact upd_same
      · exact l1.ex _ _ e2
/-! ### told -/
inductive HdsT : List ExceptHandler → List (Str × Str) → Prop
  | nil : HdsT [] []
  | cons {x t : Str} {j : Nat} {p4 p5 p6 p7 : Pos} {hds : List ExceptHandler} {l : List (Str × Str)} (r : HdsT hds l) : HdsT (.ExceptHandler (some (.Name x p4)) none [.Return (some (.Constant (.str t) j p5)) p6] p7 :: hds) ((x, t) :: l)
/-- what the first clause of c's class tells -/
def toldL (c : Str) : List (Str × Str) → Option Str
  | [] => none
  | (x, t) :: r => if x = c then some t else toldL c r
/-- each class of rs is told from those of hs by its name -/
def ExTell (K : PySem.W.Frag) (mg : Str → Option Value) (hs : List (Str × Str)) (rs : List Str) : Prop := ∀ c ∈ rs, ∃ C, mg c = some C ∧ ∀ h ∈ hs, ∃ D, mg h.1 = some D ∧ PySem.W.exmOne K C D = some (decide (h.1 = c))
def mTold (j : Nat) (q : Str) (hs : List (Str × Str)) (rs : List Str) (m : ME) : ME := fun ρ A => match A[j]? with
  | some (.tabL k q') => if k = j ∧ q' = q then (match m ρ A with
    | .ok d A' => .ok d A'
    | .exc c A' => if rs.contains c then (match toldL c hs with | some t => .ok (.str t) A' | none => .no) else .no
    | .no => .no) else .no
  | _ => .no
def hdsV (mg : Str → Option Value) (hs : List (Str × Str)) : List (Value × (Addr → Value → Option Addr → TS)) := hs.map fun h => ((mg h.1).getD .none, fun _ _ _ => tRet (tC (.str h.2)))
theorem many_tell {K : PySem.W.Frag} {mg : Str → Option Value} {Q : VK} {σ : L2.St} {H : Hp} {c : Str} {C : Value} {D : Ends} {t : Str} (hD : D.rt = Q) (q : Q (.str t) H) : ∀ {hs : List (Str × Str)}, (∀ h ∈ hs, ∃ D, mg h.1 = some D ∧ PySem.W.exmOne K C D = some (decide (h.1 = c))) → toldL c hs = some t →
    wMany K (fun _ _ _ _ => False) D (hdsV mg hs) C none σ H
  | [], _, e => by cases e
  | (x, u) :: hs, hh, e => by
    obtain ⟨D1, e1, e2⟩ := hh (x, u) List.mem_cons_self
    have e1 : mg x = some D1 := e1
    refine ⟨decide (x = c), by simp only [e1, Option.getD_some]; exact e2, fun hb a _ => ?_, fun hb => ?_⟩
    · have hx : x = c := of_decide_eq_true hb
      simp only [toldL, if_pos hx] at e
      cases e
      show D.rt (.str t) H
      rw [hD]; exact q
    · have hx : ¬ x = c := of_decide_eq_false hb
      simp only [toldL, if_neg hx] at e
      exact many_tell hD q (fun h hm => hh h (List.mem_cons_of_mem _ hm)) e
end
section
variable {X : Cx} {W : Wt}
theorem hds_ok {Y : Cx} {mg : Str → Option Value} (hmg : Y.mg = mg) (hgl : ∀ h, h ∈ ([] : List Str) → True) : ∀ {hds : List ExceptHandler} {hs : List (Str × Str)}, HdsT hds hs → (∀ h ∈ hs, Gl Y h.1 ∧ (h.1 == ("__debug__" : Str)) = false ∧ ∃ C, mg h.1 = some C) → HdsOk Y hds (hdsV mg hs)
  | _, _, .nil, _ => .nil
  | _, _, .cons r, h => by
    obtain ⟨g, d, C, hC⟩ := h _ List.mem_cons_self
    exact .cons ⟨g, d, .inl (by rw [hmg, hC]; rfl)⟩ (fun a oe cls dd pn _ _ => pss_one (ps_ret pe_str)) (hds_ok hmg hgl r fun h' hm => h h' (List.mem_cons_of_mem _ hm))
/-- x(lambda: body), x: try: return a() / except ..: return .. -/
theorem se_told {x a : Str} {g c P : Addr} {k j : Nat} {pg : Arguments} {hds : List ExceptHandler} {hs : List (Str × Str)} {rs : List Str} {sg : Scope} {dV kV doc pm cdv ct oc : Value} {an od : Option Addr} {osl : Array (Option Value)} {Ng : List Str} {p1 p2 p3 p8 : Pos}
    {params : Arguments} {body : Expr} {scope : Scope} {m : ME} {p lpos pos : Pos} {q : Str} (hP : W.tb.tab j = P) (hg : Gl X x) (hm : X.mg x = some (.ref g)) (hk : PySem.W.keepIn X.K (.ref g) = true)
    (lk : X.K.lookup g = some ⟨oc, od, .func (PySem.W.fnOf x x pg [.Try [.Return (some (.Call (.Name a p1) [] [] p2)) p3] hds [] [] p8] sg dV kV doc pm an cdv ct), osl⟩) (hcg : PySem.W.codeIn X.K cdv x = true)
    (hb : L2.Binds X.K (PySem.W.fnOf x x pg [.Try [.Return (some (.Call (.Name a p1) [] [] p2)) p3] hds [] [] p8] sg dV kV doc pm an cdv ct) [a] []) (Sg : FnScope Ng [a] sg) (hNg : Ng[0]? = some a) (hva : Vis sg a)
    (hh : HdsT hds hs) (hne : hs ≠ []) (hgl : ∀ h ∈ hs, sg.names.lookup h.1 = some .globalImplicit ∧ (h.1 == ("__debug__" : Str)) = false ∧ ∃ C, X.mg h.1 = some C) (ht : ExTell X.K X.mg hs rs)
    (TB : TabB X.base X.mg c P) (hcode : X.env.code = .ref c) (hr : Room (k + 2) X.A) (L : LamS X.env.scope scope) (hdef : defaultsOf params X.env = ([], []))
    (hbind : ∀ (q : Str) (cl : List (Str × Addr)) (pm cv ctv : Value), bindArgs (PySem.W.kla_fn "<lambda>" q params body scope cl pm cv ctv) ⟨[], []⟩ = pure [])
    (hbody : ∀ (A : Around) (outer : List PySem.Env) (s : Shared) (H : Hp) (E : XK) (f c' : Addr), Room k (A.deeper (lamEnv X scope s.heap.objs.size f c')) → Takes (lamCx X A outer s H E scope f c') (fun cls d _ H => E cls d H) →
      PE (lamCx X A outer s H E scope f c') body (tM X ⟨fun cls d _ H => E cls d H, W.tb⟩ m))
    (hdb : (x == ("__debug__" : Str)) = false := by decide) (hd : (a == ("__debug__" : Str)) = false := by decide) (hcd : (a == ("__classdict__" : Str)) = false := by decide) (hq : X.env.qual ++ "<lambda>" = q := by rfl) :
    SE X W (.Call (.Name x p) [.Lambda params body scope lpos] [] pos) (mTold j q hs rs m) := by
  subst hq
  refine ⟨fun pins s σ H Q I h => ?_⟩
  obtain ⟨ρ, A, F, B, ι, gd, ev, q⟩ := h
  unfold mTold at q
  cases hA : A[j]? with
  | none => simp only [hA] at q; exact q.elim
  | some o =>
  cases o with
  | tabL kk q' =>
    simp only [hA] at q
    by_cases hkq : kk = j ∧ q' = X.env.qual ++ "<lambda>"
    · obtain ⟨rfl, rfl⟩ := hkq
      rw [if_pos ⟨rfl, rfl⟩] at q
      have hlen : kk < ι.length := by rw [gd.len]; exact (List.getElem?_eq_some_iff.mp hA).1
      obtain ⟨ea, ps, hps, htr, hap⟩ := gd.obj kk _ _ (List.getElem?_eq_getElem hlen) hA
      have ei : ι[kk]? = some P := by rw [List.getElem?_eq_getElem hlen, ea, hP]
      rw [ea, hP] at hps
      refine wpAny_Call_Name_kw (ld_glob I hg hm ?_ hdb)
      refine PySem.W.callWith_K (h₀ := X.base) I.ok.mod.kin hk ?_ (by rfl) (by rfl)
      show wpAny _ _ (spliced ((false, eval (.Lambda params body scope lpos) X.env) :: backTo pos (starEach [] X.env))) _ _ s
      refine Calls.spliced_cons (lam_make3 I TB hcode hps htr hap hdef (L.has I.ok) fun f c' pm' ctv H1 s' I1 M hf hfn hfr => ?_)
      obtain ⟨B1, l1, g1, hco⟩ := gd.lamMade ei hA M
      refine Calls.spliced_nil ⟨I1.kIn, ?_⟩
      have rc : codeAny (model X.prog X.w) X.A (.call (.ref g) ⟨[.ref f], []⟩) (CR C8.CX0 X.stack X.prog X.w H1 s' Q C8.E0) s' := by
        refine run_ofS (N := Ng) (ps := [a]) (us := [.ref f]) (vs := [.ref f]) lk hcg Sg hr I1.env0 (hb s' [.ref f] I1.kIn rfl) (.cons rfl .nil) rfl fun hr' => ?_
        obtain ⟨h0, hds', rfl⟩ : ∃ h0 r, hds = h0 :: r := by
          cases hh with
          | nil => exact (hne rfl).elim
          | cons r => exact ⟨_, _, rfl⟩
        refine ⟨_, pss_one (ps_try_many (X := cxOf C8.CX0 X.prog X.w X.K X.mg X.base Ng x sg g cdv X.A X.stack s' H1 C8.E0) (l := hdsV X.mg hs)
          (tb := fun W' D σZ HZ => ∃ Ech : XK, (∀ cls d σ' H', Ech cls d H' → W' cls d σ' H') ∧ σZ[0]? = some (some (.ref f)) ∧ HZ c' = some (CodeO c' (X.env.qual ++ "<lambda>")) ∧ tM X ⟨fun cls d _ H => Ech cls d H, W.tb⟩ m σ HZ D.rt) rfl rfl LamX.takes0 (fun W' pn xe tk _ => ?_) ?_), ?_⟩
        · refine ⟨fun pinsZ sZ σZ HZ DZ IZ hZ => ?_⟩
          obtain ⟨Ech, hW, h1, h2, h3⟩ := hZ
          have hp := pe_act (i := 0) (p1 := p1) (p2 := p2) (E := Ech) (tb := tM X ⟨fun cls d _ H => Ech cls d H, W.tb⟩ m) I1 L hf hfn hfr (hbind _ _ _ _ _) tk hW hr' (fun A outer s H hr2 => hbody A outer s H Ech f c' hr2 (takes_of rfl rfl rfl rfl)) hNg hva hd hcd
          exact (pss_one (ps_ret (pos := p3) hp)).run pinsZ sZ σZ HZ DZ IZ ⟨h1, h2, h3⟩
        · exact hds_ok rfl (fun _ _ => trivial) hh hgl
        · refine ⟨fun cls d H' => ∀ σ', wMany X.K (fun _ _ _ _ => False) { nx := fun _ H' => Q .non H', rt := Q } (hdsV X.mg hs) cls d σ' H', fun cls d σ' H' z => z σ', ?_, g1.ex _ _ hco, ?_⟩
          · unfold L2.start
            rfl
          · refine ⟨ρ, A, F, B1, ι, g1, ev.mono l1, ?_⟩
            cases hmr : m ρ A with
            | ok d A' => rw [hmr] at q; exact PostE.mono l1 q
            | no => rw [hmr] at q; exact q.elim
            | exc e A' =>
              simp only [hmr] at q
              cases hrs : rs.contains e with
              | false => rw [hrs, if_neg (by decide)] at q; exact q.elim
              | true =>
                rw [hrs, if_pos rfl] at q
                cases htl : toldL e hs with
                | none => simp only [htl] at q; exact q.elim
                | some t =>
                  simp only [htl] at q
                  intro B2 ι2 H2 l2 g2 u hu σ'
                  obtain ⟨C, hC, hall⟩ := ht e (by simpa using hrs)
                  rw [hC] at hu
                  cases hu
                  exact many_tell rfl (q B2 ι2 H2 _ (l1.trans l2) g2 .str) hall htl
      refine wpAny_call (codeAny_mono rc fun r s2 hq => ?_)
      cases r with
      | error e => exact (show False from hq).elim
      | ok fl =>
        cases fl with
        | ret u => exact I1.after hq
        | next => exact False.elim hq
        | brk => exact False.elim hq
        | cont => exact False.elim hq
    · rw [if_neg hkq] at q; exact q.elim
  | _ => simp only [hA] at q; exact q.elim
end
end Sm

set_option Elab.async false
set_option linter.all false
set_option autoImplicit false
set_option maxRecDepth 100000
set_option maxHeartbeats 4000000
/-! Sm15: short words for what a text of a law is put together from; its end. -/
namespace Sm
open PySem L2 Evl PySem.Spec PyProof.Rows
section
variable {X : Cx} {W : Wt} {a b c e o tg iter elt : Expr} {es : List Expr} {pos p apos : Pos} {ma mb mc mo : ME} {mr : MA} {x m : Str} {k : Nat}
theorem sv (i : Nat) (hN : X.N[i]? = some x := by rfl) (hv : Vis X.env.scope x := by first | exact Or.inl rfl | exact Or.inr (Or.inl rfl) | exact Or.inr (Or.inr rfl)) (hd : (x == ("__debug__" : Str)) = false := by decide)
    (hcd : (x == ("__classdict__" : Str)) = false := by decide) : SE X W (.Name x pos) (mV i) := se_var (pe_var hN hv hd hcd)
/-- tests of values -/
theorem se_eq (hr : Room k X.A) (ha : SE X W a ma) (hb : SE X W b mb) : SE X W (.Compare a [.Eq] [b] pos) (mB (eqD false) ma mb) := se_cmp (op_eqD hr.units) op2_eqs ha hb (nomark _)
theorem se_ne (hr : Room k X.A) (ha : SE X W a ma) (hb : SE X W b mb) : SE X W (.Compare a [.NotEq] [b] pos) (mB (eqD true) ma mb) := se_cmp (op_neD hr.units) op2_nes ha hb (nomark _)
theorem se_lt (ha : SE X W a ma) (hb : SE X W b mb) : SE X W (.Compare a [.Lt] [b] pos) (mB fLt ma mb) := se_cmp op_lt op2_b0 ha hb (nomark _)
theorem se_le (ha : SE X W a ma) (hb : SE X W b mb) : SE X W (.Compare a [.LtE] [b] pos) (mB fLe ma mb) := se_cmp op_le op2_b0 ha hb (nomark _)
theorem se_gt (ha : SE X W a ma) (hb : SE X W b mb) : SE X W (.Compare a [.Gt] [b] pos) (mB fGt ma mb) := se_cmp op_gt op2_b0 ha hb (nomark _)
theorem se_ge (ha : SE X W a ma) (hb : SE X W b mb) : SE X W (.Compare a [.GtE] [b] pos) (mB fGe ma mb) := se_cmp op_ge op2_b0 ha hb (nomark _)
theorem st_eq (hr : Room k X.A) (ha : SE X W a ma) (hb : SE X W b mb) : ST X W (.Compare a [.Eq] [b] pos) (asB (mB (eqD false) ma mb)) := st_cmp (op_eqD hr.units) op2_eqs ha hb (nomark _)
theorem st_ne (hr : Room k X.A) (ha : SE X W a ma) (hb : SE X W b mb) : ST X W (.Compare a [.NotEq] [b] pos) (asB (mB (eqD true) ma mb)) := st_cmp (op_neD hr.units) op2_nes ha hb (nomark _)
theorem st_lt (ha : SE X W a ma) (hb : SE X W b mb) : ST X W (.Compare a [.Lt] [b] pos) (asB (mB fLt ma mb)) := st_cmp op_lt op2_b0 ha hb (nomark _)
theorem st_le (ha : SE X W a ma) (hb : SE X W b mb) : ST X W (.Compare a [.LtE] [b] pos) (asB (mB fLe ma mb)) := st_cmp op_le op2_b0 ha hb (nomark _)
theorem st_gt (ha : SE X W a ma) (hb : SE X W b mb) : ST X W (.Compare a [.Gt] [b] pos) (asB (mB fGt ma mb)) := st_cmp op_gt op2_b0 ha hb (nomark _)
theorem st_ge (ha : SE X W a ma) (hb : SE X W b mb) : ST X W (.Compare a [.GtE] [b] pos) (asB (mB fGe ma mb)) := st_cmp op_ge op2_b0 ha hb (nomark _)
/-- builtins -/
theorem se_len (hg : Gl X "len" := by rfl) (hm : X.mg "len" = none) (ha : SA X W (e :: es) mr) (he : starEach (e :: es) X.env = (false, eval e X.env) :: starEach es X.env := by rfl) (hpl : (backTo pos (starEach es X.env)).any (·.1) = false := by rfl) : SE X W (.Call (.Name "len" p) (e :: es) [] pos) (mN dLen mr) :=
  se_blt (id := "len") call_lenAll opN_len hg hm (by rfl) ha (by decide) (by decide) he hpl
theorem se_sum (hc : X.calm = true := by rfl) (hg : Gl X "sum" := by rfl) (hm : X.mg "sum" = none) (ha : SA X W (e :: es) mr) (he : starEach (e :: es) X.env = (false, eval e X.env) :: starEach es X.env := by rfl) (hpl : (backTo pos (starEach es X.env)).any (·.1) = false := by rfl) : SE X W (.Call (.Name "sum" p) (e :: es) [] pos) (mN (fInts fun ns => some ns.sum) mr) :=
  se_blt (id := "sum") (cr_sum hc) opN_sum hg hm (by rfl) ha (by decide) (by decide) he hpl
theorem se_max (hc : X.calm = true := by rfl) (hg : Gl X "max" := by rfl) (hm : X.mg "max" = none) (ha : SA X W (e :: es) mr) (he : starEach (e :: es) X.env = (false, eval e X.env) :: starEach es X.env := by rfl) (hpl : (backTo pos (starEach es X.env)).any (·.1) = false := by rfl) : SE X W (.Call (.Name "max" p) (e :: es) [] pos) (mN (fInts maxOf) mr) :=
  se_blt (id := "max") (cr_max hc) opN_max hg hm (by rfl) ha (by decide) (by decide) he hpl
theorem se_min (hc : X.calm = true := by rfl) (hg : Gl X "min" := by rfl) (hm : X.mg "min" = none) (ha : SA X W (e :: es) mr) (he : starEach (e :: es) X.env = (false, eval e X.env) :: starEach es X.env := by rfl) (hpl : (backTo pos (starEach es X.env)).any (·.1) = false := by rfl) : SE X W (.Call (.Name "min" p) (e :: es) [] pos) (mN (fInts minOf) mr) :=
  se_blt (id := "min") (cr_min hc) opN_min hg hm (by rfl) ha (by decide) (by decide) he hpl
theorem se_anyL (hc : X.calm = true := by rfl) (hg : Gl X "any" := by rfl) (hm : X.mg "any" = none) (ha : SA X W (e :: es) mr) (he : starEach (e :: es) X.env = (false, eval e X.env) :: starEach es X.env := by rfl) (hpl : (backTo pos (starEach es X.env)).any (·.1) = false := by rfl) : SE X W (.Call (.Name "any" p) (e :: es) [] pos) (mN (fBools fun bs => bs.any id) mr) :=
  se_blt (id := "any") (cr_any hc) opN_any hg hm (by rfl) ha (by decide) (by decide) he hpl
theorem se_allL (hc : X.calm = true := by rfl) (hg : Gl X "all" := by rfl) (hm : X.mg "all" = none) (ha : SA X W (e :: es) mr) (he : starEach (e :: es) X.env = (false, eval e X.env) :: starEach es X.env := by rfl) (hpl : (backTo pos (starEach es X.env)).any (·.1) = false := by rfl) : SE X W (.Call (.Name "all" p) (e :: es) [] pos) (mN (fBools fun bs => bs.all id) mr) :=
  se_blt (id := "all") (cr_all hc) opN_all hg hm (by rfl) ha (by decide) (by decide) he hpl
theorem se_abs (hg : Gl X "abs" := by rfl) (hm : X.mg "abs" = none) (ha : SA X W (e :: es) mr) (he : starEach (e :: es) X.env = (false, eval e X.env) :: starEach es X.env := by rfl) (hpl : (backTo pos (starEach es X.env)).any (·.1) = false := by rfl) : SE X W (.Call (.Name "abs" p) (e :: es) [] pos) (mN dAbs mr) :=
  se_blt (id := "abs") call_abs opN_abs hg hm (by rfl) ha (by decide) (by decide) he hpl
theorem se_toInt (hg : Gl X "int" := by rfl) (hm : X.mg "int" = none) (ha : SA X W (e :: es) mr) (he : starEach (e :: es) X.env = (false, eval e X.env) :: starEach es X.env := by rfl) (hpl : (backTo pos (starEach es X.env)).any (·.1) = false := by rfl) : SE X W (.Call (.Name "int" p) (e :: es) [] pos) (mN dInt mr) :=
  se_typ (T := "int") call_int1 opN_int hg hm (by rfl) ha (by decide) (by decide) he hpl
theorem se_toTup (hg : Gl X "tuple" := by rfl) (hm : X.mg "tuple" = none) (ha : SA X W (e :: es) mr) (he : starEach (e :: es) X.env = (false, eval e X.env) :: starEach es X.env := by rfl) (hpl : (backTo pos (starEach es X.env)).any (·.1) = false := by rfl) : SE X W (.Call (.Name "tuple" p) (e :: es) [] pos) (mN dTup mr) :=
  se_typ (T := "tuple") call_tuple_of opN_tuple hg hm (by rfl) ha (by decide) (by decide) he hpl
theorem sl_toList (hg : Gl X "list" := by rfl) (hm : X.mg "list" = none) (ha : SA X W (e :: es) mr) (he : starEach (e :: es) X.env = (false, eval e X.env) :: starEach es X.env := by rfl) (hpl : (backTo pos (starEach es X.env)).any (·.1) = false := by rfl) : SL X W (.Call (.Name "list" p) (e :: es) [] pos) (mNL dSeq mr) :=
  sl_typ (T := "list") call_list_of opL_list hg hm (by rfl) ha (by decide) (by decide) he hpl
theorem sl_sortI (hg : Gl X "sorted" := by rfl) (hm : X.mg "sorted" = none) (ha : SA X W (e :: es) mr) (he : starEach (e :: es) X.env = (false, eval e X.env) :: starEach es X.env := by rfl) (hpl : (backTo pos (starEach es X.env)).any (·.1) = false := by rfl) : SL X W (.Call (.Name "sorted" p) (e :: es) [] pos) (mNL dSortI mr) :=
  sl_blt (id := "sorted") cr_sortedI opL_sortI hg hm (by rfl) ha (by decide) (by decide) he hpl
/-- what is asked of a class's fields -/
theorem cls_one {c f : Str} {C : Addr} (g : X.mg c = some (.ref C)) (h : Cls X.K C) (n : NoAttr X.K C f) : ClsOk X [c] f := fun c' hc C' hC => by
  have e : c' = c := by simpa using hc
  subst e
  rw [g] at hC
  cases hC
  exact ⟨h, n⟩
theorem cls_more {c f : Str} {cs : List Str} {C : Addr} (g : X.mg c = some (.ref C)) (h : Cls X.K C) (n : NoAttr X.K C f) (r : ClsOk X cs f) : ClsOk X (c :: cs) f := fun c' hc C' hC => by
  rcases List.mem_cons.mp hc with e | e
  · subst e
    rw [g] at hC
    cases hC
    exact ⟨h, n⟩
  · exact r c' e C' hC
theorem md_nil {tb : Tb} {n : Nat} : ∀ (c : Str) (f : FM), ([] : List (Str × FM)).lookup c = some f → MD X tb c m n f := fun c f h => by cases h
theorem md_more {tb : Tb} {n : Nat} {c0 : Str} {f0 : FM} {sel : List (Str × FM)} (h0 : MD X tb c0 m n f0) (h : ∀ c f, sel.lookup c = some f → MD X tb c m n f) : ∀ c f, ((c0, f0) :: sel).lookup c = some f → MD X tb c m n f := fun c f hl => by
  rw [List.lookup_cons] at hl
  by_cases hc : c = c0
  · subst hc
    simp only [beq_self_eq_true] at hl
    cases hl
    exact h0
  · have : (c == c0) = false := by simpa using hc
    rw [this] at hl
    exact h c f hl
end
/-- at a stands a def of mirror f; it needs k levels -/
def FnG (P : Program) (w : World) (K : PySem.W.Frag) (mg : Str → Option Value) (base : Heap) (tb : Tb) (k : Nat) (a : Addr) (n : Nat) (f : FM) : Prop :=
  ∃ (fd : FuncData) (ps : List Str), FnOk P w K mg base (L2.CX P w) k a fd ps (spM K mg tb n f) ∧ L2.Binds K fd ps [] ∧ PySem.W.keepIn K (.ref a) = true
section
variable {X : Cx} {tb : Tb} {n k j : Nat} {a C : Addr} {f : FM} {c m : Str}
theorem FnG.fd (h : FnG X.prog X.w X.K X.mg X.base tb k a n f) (hr : Room j X.A) (hk : k ≤ j := by decide) : FD X tb n f a := by
  obtain ⟨fd, ps, F, b, kp⟩ := h
  exact ⟨fd, ps, k, F, hr.mono hk, b, kp⟩
theorem FnG.md (h : FnG X.prog X.w X.K X.mg X.base tb k a n f) (g : X.mg c = some (.ref C)) (cl : Cls X.K C) (mt : Meth X.K C m a) (hr : Room j X.A) (hk : k ≤ j := by decide) : MD X tb c m n f := ⟨C, a, g, cl, mt, h.fd hr hk⟩
theorem FnG.kd (h : FnG X.prog X.w X.K X.mg X.base tb k a n f) (g : X.mg c = some (.ref C)) (M : Mk X.K C a) (hr : Room j X.A) (hk : k + 1 ≤ j := by decide) : KD X tb c n f := by
  obtain ⟨fd, ps, F, b, kp⟩ := h
  exact ⟨C, a, fd, ps, k, g, M, F, hr.mono hk, b⟩
end
theorem fng_of {P : Program} {w : World} {K : PySem.W.Frag} {mg : Str → Option Value} {tb : Tb} {base : Heap} {x qual : Str} {st : Stmt} {f : Addr} {fd : FuncData} {N ps : List Str} {k : Nat} (fz : Bool) {m : MS} (Fu : L2.Fun K x qual st f fd) (b : L2.Binds K fd ps []) (S : FnScope N ps (defScope st))
    (hb : ∀ (cdv : Value) (hcode : fd.code = cdv) (A : Around) (outer : List PySem.Env) (s : Shared) (H : Hp) (E : XK), Room k (cxOf (L2.CX P w) P w K mg base N qual (defScope st) f cdv A outer s H E).A →
      Takes (cxOf (L2.CX P w) P w K mg base N qual (defScope st) f cdv A outer s H E) (fun cls d _ H => E cls d H) →
      PassesOwn (model P w) (cxOf (L2.CX P w) P w K mg base N qual (defScope st) f cdv A outer s H E).A (cxOf (L2.CX P w) P w K mg base N qual (defScope st) f cdv A outer s H E).env (cxOf (L2.CX P w) P w K mg base N qual (defScope st) f cdv A outer s H E).xe →
      SSs (cxOf (L2.CX P w) P w K mg base N qual (defScope st) f cdv A outer s H E) ⟨fun cls d _ H => E cls d H, tb⟩ (defBody st) m) : FnG P w K mg base tb (k + 1) f ps.length (fmOf fz N.length m) :=
  ⟨fd, ps, fd_of Fu S hb, b, Fu.kp⟩
end Sm
namespace Sm
theorem gtab {base : PySem.Heap} {mg : PySem.Str → Option PySem.Value} {c P : PySem.Addr} (h : LamX.TabB base mg c P) : GxR.TabB base mg c P := ⟨h.code, h.bm, h.gP⟩
end Sm

set_option Elab.async false
set_option linter.all false
set_option autoImplicit false
set_option maxRecDepth 100000
set_option maxHeartbeats 4000000
/-! Sm16: the end of a law's text. -/
namespace Sm
open PySem L2 Evl PySem.Spec PyProof.Rows LamX
/-- walk_ofOwn, with the tables of all defs of the top -/
theorem walk_all {l : PySem.W.OpenLaw} {n k : Nat} {q : Program} {loose : List Str} {XP : (Str → Option Value) → Heap → Prop} {YP : World → Heap → Prop} {d : DefRec} {K : Params → PySem.W.Frag} {x : Str}
    (hn : l.most = some n) (hn2 : n ≤ sizeLine) (hdf : d.params.defaults = []) (hr : Room k callerA) (hY : ∀ (w : World) (h : Heap), YP w h → (K w.params).In h)
    (F : ∀ (w : World) (mg : Str → Option Value) (fa : Addr) (h : Heap), (K w.params).In h → h.Ns mainGlobals mg → mg d.name = some (.ref fa) →
      (∀ (y : Str) (a : Addr), ((recsOf q).any fun e => e.name == y) = true → mg y = some (.ref a) → OwnTab (K w.params) a h) → LawAtS l w (K w.params) (L2.CX l.prog w) k n x mg fa h) :
    PySem.W.WalkO q loose XP YP l.row.toRowW d [] (fun f vs => PySem.call f vs) := by
  refine Att.attach_callB hn hdf fun w s₀ s₁ mg mb fa o pm cd doc a vs ns G Y ho hd hcd hmg hobj hints hlen hbits hg => ?_
  have KX := hY w _ Y
  have own : ∀ (y : Str) (a : Addr), ((recsOf q).any fun e => e.name == y) = true → mg y = some (.ref a) → OwnTab (K w.params) a s₁.heap := fun y ay hrec hy c P o1 fd1 e dd vs1 sl k1 k2 k3 k4 k5 => by
    obtain ⟨dL, hm, hn1⟩ := List.any_eq_true.mp hrec
    have hn2 : dL.name = y := beq_iff_eq.mp hn1
    obtain ⟨a', o', fd', c', P', h1, h2, h3, h4, h5, h6⟩ := G.T.tab dL hm
    rw [hn2, hy] at h1
    cases h1
    cases (KX _ _ k1).symm.trans h2
    cases k2.symm.trans h3
    cases k3.symm.trans h4
    obtain ⟨⟨oc, vc, e1, _, e3, e4⟩, hP⟩ := h6
    cases (KX _ _ k4).symm.trans e1
    cases e3
    cases k5.symm.trans e4
    exact hP
  obtain ⟨fd, cs, sp, hT, nT, C, hb, hsp, hF⟩ := F w mg fa _ KX G.T.g hmg own
  refine law_callTs KX G.T.g G.T.b G.T.builtins G.T.nolimit hg hT nT C G.T.bmain hobj hints (Nat.le_trans hlen hn2) hr hF hb (fun H hH hS => hsp H a ns hlen hbits hH hS) fun H e s' z => ?_
  obtain ⟨_, _, _, _, _, _, _, _, _, _, _, _, _, z⟩ := z
/-- the law's promise at the empty tables -/
theorem law_sp {K : PySem.W.Frag} {mg : Str → Option Value} {tb : Tb} {A0 : Sto} {Ps : List Addr} {H : Hp} {a : Addr} {ns : List Int} {m : FM} {E : XK} (h1 : Ps.length = A0.length) (h2 : ∀ (j : Nat) (o : AO), A0[j]? = some o → o = .tabG j ∨ ∃ q, o = .tabL j q) (h3 : ∀ (j : Nat) (P : Addr), Ps[j]? = some P → P = tb.tab j)
    (nd : Ps.Nodup) (nK : ∀ P ∈ Ps, K.lookup P = none) (hH : ∀ P ∈ Ps, H P = some (.tbl #[])) (hS : SqL K H a (ns.map V.int)) (hm : ∃ A', m [.lst (ns.map .int)] A0 = .ok (.bl true) A') : spM K mg tb 1 m [.ref a] H (fun v _ => v = .bl true) E := by
  obtain ⟨A', hm⟩ := hm
  have haP : ∀ P ∈ Ps, P ≠ a := fun P hP z => by
    rcases hS with (h | ⟨o, h⟩) | ⟨o, its, n, h, _⟩
    · rw [← z, hH P hP] at h; cases h
    · rw [← z, hH P hP] at h; cases h
    · rw [← z, nK P hP] at h; cases h
  have tl : ∀ cv pos, codeAmong pos (#[] : Array Value).toList = some cv → False := fun cv pos h => by simp [codeAmong] at h
  refine ⟨[.lst (ns.map .int)], A0, fun _ => none, fun b => if b = a then H a else none, Ps, rfl, ⟨fun b o e => ?_, fun b o e => (by cases e), fun b o e => (by cases e), fun b o e => (by cases e), h1, fun j P o e1 e2 => ?_, fun j P o e1 e2 _ => ⟨?_, rfl⟩, fun i j P o u e1 e2 _ _ _ _ => ?_⟩, .cons (.lst (a := a) (vs := ns.map V.int) ?_ (repL_ints ns)) .nil, ?_⟩
  · by_cases hb : b = a
    · rw [if_pos hb] at e; rw [hb]; exact e
    · rw [if_neg hb] at e; cases e
  · have hPm : P ∈ Ps := List.mem_of_getElem? e1
    rcases h2 j o e2 with rfl | ⟨q, rfl⟩
    · exact ⟨h3 j P e1, #[], hH P hPm, trivial⟩
    · exact ⟨h3 j P e1, #[], hH P hPm, trivial, fun pos cv h => (tl cv pos h).elim⟩
  · exact if_neg (haP P (List.mem_of_getElem? e1))
  · have hi := (List.getElem?_eq_some_iff.mp e1).1
    exact (List.getElem?_inj hi nd).mp (e1.trans e2.symm)
  · rcases hS with (h | ⟨o, h⟩) | h
    · exact .inl (.inl (by show (if a = a then H a else none) = _; rw [if_pos rfl]; exact h))
    · exact .inl (.inr ⟨o, by show (if a = a then H a else none) = _; rw [if_pos rfl]; exact h⟩)
    · exact .inr h
  · rw [hm]
    intro B' ι' H' v l g r
    cases r
    rfl
end Sm

set_option Elab.async false
set_option linter.all false
set_option autoImplicit false
set_option maxRecDepth 100000
set_option maxHeartbeats 4000000
/-! Sm17: how mirrors are worked out. -/
namespace Sm
open PySem
/-! ### == -/
theorem pyD_int {A : Sto} {f : Nat} {i : Int} : pyD A (f + 1) (.int i) = some (.int i) := rfl
theorem pyDs_ints (A : Sto) : ∀ (ns : List Int) (f : Nat), ns.length < f → pyDs A f (ns.map D.int) = some (ns.map PyData.int)
  | [], 0, h => absurd h (Nat.not_lt_zero _)
  | [], f + 1, _ => rfl
  | n :: ns, 0, h => absurd h (Nat.not_lt_zero _)
  | n :: ns, 1, h => by simp at h
  | n :: ns, f + 2, h => by
    have ih := pyDs_ints A ns (f + 1) (by simp at h; omega)
    simp only [List.map_cons, pyDs, pyD, ih]
theorem eqv_ints : ∀ (ns ms : List Int), PyData.eqvAll (ns.map PyData.int) (ms.map PyData.int) = decide (ns = ms)
  | [], [] => rfl
  | [], _ :: _ => rfl
  | _ :: _, [] => rfl
  | n :: ns, m :: ms => by
    simp only [List.map_cons, PyData.eqvAll, PyData.eqv, eqv_ints ns ms]
    by_cases h : n = m
    · subst h; simp
    · simp [h]
theorem shaped_ints_all : ∀ ns : List Int, PyData.canLayAll0 (ns.map PyData.int) = true ∧ PyData.depthAll (ns.map PyData.int) = 0
  | [] => ⟨rfl, rfl⟩
  | n :: ns => by
    obtain ⟨h1, h2⟩ := shaped_ints_all ns
    exact ⟨by simp only [List.map_cons, PyData.canLayAll0, PyData.canLay0, h1]; rfl, by simp only [List.map_cons, PyData.depthAll, PyData.depth, h2]; rfl⟩
theorem shaped_lst (ns : List Int) : SeqAt.shaped (.list (ns.map PyData.int)) = true := by
  obtain ⟨h1, h2⟩ := shaped_ints_all ns
  unfold SeqAt.shaped PyData.canLay0 PyData.depth
  rw [h1, h2]
  rfl
theorem shaped_tup (ns : List Int) : SeqAt.shaped (.tuple (ns.map PyData.int)) = true := by
  obtain ⟨h1, h2⟩ := shaped_ints_all ns
  unfold SeqAt.shaped PyData.canLay0 PyData.depth
  rw [h1, h2]
  rfl
def ng (neg b : Bool) : Bool := if neg then !b else b
theorem eqD_int {neg : Bool} {A : Sto} {i j : Int} : eqD neg A (.int i) (.int j) = some (.bl (ng neg (decide (i = j)))) := by
  have h : PyData.eqv (.int i) (.int j) = decide (i = j) := by
    simp only [PyData.eqv]
    by_cases h : i = j
    · subst h; simp
    · simp [h]
  show (if (SeqAt.shaped (.int i) && SeqAt.shaped (.int j)) = true then some (D.bl (if neg then !PyData.eqv (.int i) (.int j) else PyData.eqv (.int i) (.int j))) else none) = _
  have s : (SeqAt.shaped (.int i) && SeqAt.shaped (.int j)) = true := rfl
  rw [h, if_pos s]
  rfl
theorem eqD_bl {neg : Bool} {A : Sto} {i j : Bool} : eqD neg A (.bl i) (.bl j) = some (.bl (ng neg (decide (i = j)))) := by
  cases i <;> cases j <;> cases neg <;> rfl
theorem pyD_lst {A : Sto} {ns : List Int} (h : ns.length < 2999) : pyD A fuelD (.lst (ns.map .int)) = some (.list (ns.map .int)) := by
  show (pyDs A 2999 (ns.map .int)).map PyData.list = _
  rw [pyDs_ints A ns 2999 h]
  rfl
theorem pyD_tup {A : Sto} {ns : List Int} (h : ns.length < 2999) : pyD A fuelD (.tup (ns.map .int)) = some (.tuple (ns.map .int)) := by
  show (pyDs A 2999 (ns.map .int)).map PyData.tuple = _
  rw [pyDs_ints A ns 2999 h]
  rfl
theorem eqD_ints {neg : Bool} {A : Sto} {ns ms : List Int} (h1 : ns.length < 2999) (h2 : ms.length < 2999) : eqD neg A (.lst (ns.map .int)) (.lst (ms.map .int)) = some (.bl (ng neg (decide (ns = ms)))) := by
  unfold eqD
  rw [pyD_lst h1, pyD_lst h2]
  simp only [shaped_lst, Bool.and_self, if_true, PyData.eqv, eqv_ints]
  rfl
theorem eqD_tints {neg : Bool} {A : Sto} {ns ms : List Int} (h1 : ns.length < 2999) (h2 : ms.length < 2999) : eqD neg A (.tup (ns.map .int)) (.tup (ms.map .int)) = some (.bl (ng neg (decide (ns = ms)))) := by
  unfold eqD
  rw [pyD_tup h1, pyD_tup h2]
  simp only [shaped_tup, Bool.and_self, if_true, PyData.eqv, eqv_ints]
  rfl
/-! ### lists made -/
theorem lcL_pure {g : MG} {t : MT} {m : ME} {ρ : Env} {A : Sto} {f : D → Option D} : ∀ {ds : List D}, (∀ d ∈ ds, ∃ ρ1, g d ρ = some ρ1 ∧ ((f d = none ∧ t ρ1 A = .ok false A) ∨ ∃ y, f d = some y ∧ t ρ1 A = .ok true A ∧ m ρ1 A = .ok y A)) → lcL g t m ds ρ A = .ok (ds.filterMap f) A
  | [], _ => rfl
  | d :: ds, h => by
    have ih := lcL_pure (f := f) fun d' hd => h d' (List.mem_cons_of_mem _ hd)
    obtain ⟨ρ1, h1, h2⟩ := h d List.mem_cons_self
    unfold lcL
    rcases h2 with ⟨e, ht⟩ | ⟨y, e, ht, hm⟩
    · simp only [h1, ht, ih, List.filterMap_cons, e]
    · simp only [h1, ht, hm, ih, List.filterMap_cons, e]
theorem mLc_pure {vs : List Nat} {mi : MA} {g : MG} {t : MT} {m : ME} {ρ : Env} {A A1 : Sto} {ds : List D} {f : D → Option D} (hi : mi ρ A = .ok ds A1) (hz : ds.length ≤ 100000)
    (h : ∀ d ∈ ds, ∃ ρ1, g d (wipeD ρ vs) = some ρ1 ∧ ((f d = none ∧ t ρ1 A1 = .ok false A1) ∨ ∃ y, f d = some y ∧ t ρ1 A1 = .ok true A1 ∧ m ρ1 A1 = .ok y A1)) : mLc vs mi g t m ρ A = .ok (ds.filterMap f) A1 := by
  unfold mLc bd
  simp only [hi, lcL_pure h, szOk, decide_eq_true hz, if_true]
theorem rngD_map (n : Nat) : rngD 0 n = (List.range n).map fun i => D.int (i : Nat) := by
  refine List.ext_getElem? fun i => ?_
  by_cases h : i < n
  · rw [rngD_at n 0 i h]; simp [h]
  · rw [List.getElem?_eq_none (by rw [rngD_len]; omega), List.getElem?_eq_none (by simp; omega)]
theorem zipD_map (n : Nat) (w b : Nat → D) : zipD ((List.range n).map w) ((List.range n).map b) = (List.range n).map fun i => D.tup [w i, b i] := by
  have : ∀ l : List Nat, zipD (l.map w) (l.map b) = l.map fun i => D.tup [w i, b i] := fun l => by
    induction l with
    | nil => rfl
    | cons x l ih => simp only [List.map_cons, zipD, ih]
  exact this _
theorem enumD_map (n : Nat) (w : Nat → D) : enumD 0 ((List.range n).map w) = (List.range n).map fun i => D.tup [.int (i : Nat), w i] := by
  refine List.ext_getElem? fun i => ?_
  rw [enumD_at]
  by_cases h : i < n
  · simp [h]
  · simp [h]
theorem intsOf_map : ∀ ns : List Int, intsOf (ns.map .int) = some ns
  | [] => rfl
  | n :: ns => by simp only [List.map_cons, intsOf, intsOf_map ns, Option.map_some]
theorem sz0 : szOk 0 = true := rfl
theorem sz1 : szOk 1 = true := rfl
theorem sz2 : szOk 2 = true := rfl
theorem sz3 : szOk 3 = true := rfl
theorem sz4 : szOk 4 = true := rfl
theorem sz5 : szOk 5 = true := rfl
theorem sz6 : szOk 6 = true := rfl
theorem sz7 : szOk 7 = true := rfl
theorem sz8 : szOk 8 = true := rfl
theorem sz9 : szOk 9 = true := rfl
end Sm

set_option Elab.async false
set_option linter.all false
set_option autoImplicit false
set_option maxRecDepth 100000
set_option maxHeartbeats 4000000
/-! Sm18: the dice that all laws throw. -/
namespace Common
open PySem Sm
open L2 (ixN atI)
def b_law_dice : MS := (sSeq (sIf (asB (mCh fLt fLt (mB fSub (mC (.int 0)) (mC (.int 10))) (mV 0) (mC (.int 10)))) (sRet (nwL (mLs (aCons (mN dAbs (aCons (mV 0) aNil)) (aCons (mC (.int 0)) (aCons (mC (.int 2)) aNil)))))) sNil) (sRet (nwL (mLs (aCons (mV 0) (aCons (mB fAdd (mC (.int 1)) (mB fMod (mN dInt (aCons (mV 0) aNil)) (mC (.int 1009)))) (aCons (mN dInt (aCons (mB fGe (mV 0) (mB fPow (mC (.int 10)) (mC (.int 18)))) aNil)) aNil)))))))
def m_law_dice : FM := fmOf false 1 b_law_dice
def lc_law_rounds_1 : MA := mLc [3] (mIt seqB (mV 2)) (gN 3) yesT (mCall m_law_dice (aCons (mV 3) aNil))
def b_law_rounds : MS := (sSeq (sSet 2 (frL (mSlL (mV 0) oNo (oAt (mV 1))))) (sSeq (sIf (asB (mB (eqD false) (mV 2) (frL (mLs aNil)))) (sSet 2 (frL (mLs (aCons (mC (.int 0)) aNil)))) sNil) (sRet (frL lc_law_rounds_1))))
def m_law_rounds : FM := fmOf false 4 b_law_rounds
def b_law_roll : MS := (sSeq (sIf (mOrT (asB (mB (eqD false) (mB ixD (mV 0) (mC (.int 2))) (mC (.int 2)))) (mAndT (asB (mB (eqD false) (mB ixD (mV 0) (mC (.int 2))) (mC (.int 1)))) (asB (mB fGt (mB ixD (mV 0) (mC (.int 0))) (mC (.int 0)))))) (sSeq (sSet 2 (mB fMod (mN dInt (aCons (mB ixD (mV 0) (mC (.int 0))) aNil)) (mV 1))) (sSeq (sSub (mB fDiv (mB ixD (mV 0) (mC (.int 0))) (mV 1)) (mV 0) (mC (.int 0))) (sRet (mV 2)))) sNil) (sSeq (sSub (mC (.int 0)) (mV 0) (mC (.int 2))) (sSeq (sSub (mB fMod (mN dInt (aCons (mB fAdd (mB fAdd (mB fMul (mB ixD (mV 0) (mC (.int 0))) (mC (.int 48271))) (mB fMul (mB ixD (mV 0) (mC (.int 1))) (mC (.int 69621)))) (mC (.int 11))) aNil)) (mC (.int 2147483647))) (mV 0) (mC (.int 0))) (sSeq (sSub (mB fAdd (mB ixD (mV 0) (mC (.int 1))) (mC (.int 1))) (mV 0) (mC (.int 1))) (sRet (mB fMod (mN dInt (aCons (mB fAdd (mB fDiv (mB ixD (mV 0) (mC (.int 0))) (mC (.int 7))) (mB ixD (mV 0) (mC (.int 0)))) aNil)) (mV 1)))))))
def m_law_roll : FM := fmOf false 3 b_law_roll
/-- a die at n of the store, t rolls old -/
def Dice (A : Sto) (n : Nat) (t : Nat) : Prop := ∃ c0 c1 c2 : Int, A[n]? = some (.lst [.int c0, .int c1, .int c2]) ∧ c0.natAbs.log2 ≤ 2000000 ∧ c1.natAbs ≤ 2000 + t
theorem log2_small {i : Int} {b : Nat} (hb : 0 < b) (h : i.natAbs < 2 ^ b) : i.natAbs.log2 < b := by
  by_cases h0 : i.natAbs = 0
  · rw [h0]; simpa using hb
  · exact (Nat.log2_lt h0).mpr h
theorem bits_log2 {n : Int} (h : Builtin.Int.intBits n ≤ 1048576) : n.natAbs.log2 ≤ 1048576 := by
  unfold Builtin.Int.intBits at h
  split at h
  · rename_i h0
    have : n = 0 := by simpa using h0
    subst this
    decide
  · omega
theorem log2_mono {a b : Nat} (h : a ≤ b) : a.log2 ≤ b.log2 := by
  by_cases ha : a = 0
  · subst ha; simp
  · have hb : b ≠ 0 := by omega
    have := Nat.lt_log2_self (n := b)
    have h2 : a < 2 ^ (b.log2 + 1) := by omega
    exact Nat.lt_succ_iff.mp ((Nat.log2_lt ha).mpr h2)
theorem dice_ok {n : Int} (h : Builtin.Int.intBits n ≤ 1048576) (A : Sto) : ∃ o, m_law_dice [.int n] A = .ok (.ref A.length) (A ++ [o]) ∧ ∃ c0 c1 c2 : Int, o = .lst [.int c0, .int c1, .int c2] ∧ c0.natAbs.log2 ≤ 2000000 ∧ c1.natAbs ≤ 2000 := by
  have e0 : m_law_dice [.int n] A = fin false A.length (b_law_dice [some (.int n)] A) := rfl
  have fn : ∀ (o : AO), fin false A.length (.rt (.ref A.length) (A ++ [o])) = .ok (.ref A.length) (A ++ [o]) := fun o => by
    unfold fin frzD killD trim2
    have : closed A.length (.ref A.length) = false := by simp [closed]
    simp [this]
  have hl := bits_log2 h
  have habs : (if n < 0 then -n else n).natAbs = n.natAbs := by split <;> omega
  by_cases h1 : 0 - 10 < n
  · by_cases h2 : n < 10
    · refine ⟨_, ?_, if n < 0 then -n else n, 0, 2, rfl, by rw [habs]; omega, by decide⟩
      rw [e0, ← fn]
      unfold b_law_dice
      simp only [bd, mB, mU, mN, rd, op, mV, mC, asB, mAndT, mOrT, mNotT, mAndV, mOrV, mNotV, mIf, aNil, aCons, mTup, mLs, frL, nwL, bS, sNil, sSeq, sRet, sEx, sIf, sSet, sSub, stO, sAsg, sPar, sAug, mCall, i2, b2, sz0, sz1, sz2, sz3, sz4, sz5, sz6, sz7, sz8, sz9, List.length_cons, List.length_nil, Nat.reduceAdd, List.getElem?_cons_zero, List.getElem?_cons_succ, List.set_cons_zero, List.set_cons_succ, if_true, if_false, decide_true, decide_false, Bool.true_and, Bool.and_true, Bool.false_eq_true, reduceCtorEq, ↓reduceIte, mCh, dAbs, decide_eq_true h1, decide_eq_true h2]
    · refine ⟨_, ?_, n, 1 + n % 1009, if decide (10 ^ 18 ≤ n) = true then 1 else 0, rfl, by omega, by omega⟩
      rw [e0, ← fn]
      unfold b_law_dice
      simp only [bd, mB, mU, mN, rd, op, mV, mC, asB, mAndT, mOrT, mNotT, mAndV, mOrV, mNotV, mIf, aNil, aCons, mTup, mLs, frL, nwL, bS, sNil, sSeq, sRet, sEx, sIf, sSet, sSub, stO, sAsg, sPar, sAug, mCall, i2, b2, sz0, sz1, sz2, sz3, sz4, sz5, sz6, sz7, sz8, sz9, List.length_cons, List.length_nil, Nat.reduceAdd, List.getElem?_cons_zero, List.getElem?_cons_succ, List.set_cons_zero, List.set_cons_succ, if_true, if_false, decide_true, decide_false, Bool.true_and, Bool.and_true, Bool.false_eq_true, reduceCtorEq, ↓reduceIte, mCh, dInt, decide_eq_true h1, decide_eq_false h2]
      rfl
  · refine ⟨_, ?_, n, 1 + n % 1009, if decide (10 ^ 18 ≤ n) = true then 1 else 0, rfl, by omega, by omega⟩
    rw [e0, ← fn]
    unfold b_law_dice
    simp only [bd, mB, mU, mN, rd, op, mV, mC, asB, mAndT, mOrT, mNotT, mAndV, mOrV, mNotV, mIf, aNil, aCons, mTup, mLs, frL, nwL, bS, sNil, sSeq, sRet, sEx, sIf, sSet, sSub, stO, sAsg, sPar, sAug, mCall, i2, b2, sz0, sz1, sz2, sz3, sz4, sz5, sz6, sz7, sz8, sz9, List.length_cons, List.length_nil, Nat.reduceAdd, List.getElem?_cons_zero, List.getElem?_cons_succ, List.set_cons_zero, List.set_cons_succ, if_true, if_false, decide_true, decide_false, Bool.true_and, Bool.and_true, Bool.false_eq_true, reduceCtorEq, ↓reduceIte, mCh, dInt, decide_eq_false h1]
    rfl
theorem ix30 : ixN 3 0 = some 0 := rfl
theorem ix31 : ixN 3 1 = some 1 := rfl
theorem ix32 : ixN 3 2 = some 2 := rfl
theorem at30 {a b c : D} : atI [a, b, c] 0 = some a := rfl
theorem at31 {a b c : D} : atI [a, b, c] 1 = some b := rfl
theorem at32 {a b c : D} : atI [a, b, c] 2 = some c := rfl
theorem ixD_ref {A : Sto} {d : Nat} {ds : List D} {k : Int} (h : A[d]? = some (.lst ds)) : ixD A (.ref d) (.int k) = atI ds k := by
  unfold ixD lstOf
  simp only [h, Option.bind_some]
theorem setA_ref {A : Sto} {d : Nat} {ds : List D} {k : Int} {y : D} (h : A[d]? = some (.lst ds)) : setA A (.ref d) (.int k) y = (ixN ds.length k).map fun t => A.set d (.lst (ds.set t y)) := by
  unfold setA
  simp only [h]
theorem fin_int {n : Nat} {A : Sto} {i : Int} (h : A.length = n) : fin false n (.rt (.int i) A) = .ok (.int i) A := by
  unfold fin frzD killD trim2 trimA
  simp [closed, h]
theorem roll_ok {A : Sto} {d t : Nat} (hD : Dice A d t) (ht : t < 2 ^ 40) {many : Int} (h1 : 1 ≤ many) (h2 : many.natAbs.log2 < 9000) :
    ∃ (r : Int) (ds : List D), m_law_roll [.ref d, .int many] A = .ok (.int r) (A.set d (.lst ds)) ∧ 0 ≤ r ∧ r < many ∧ Dice (A.set d (.lst ds)) d (t + 1) := by
  obtain ⟨c0, c1, c2, hA, b0, b1⟩ := hD
  have hlt : d < A.length := (List.getElem?_eq_some_iff.mp hA).1
  have e0 : m_law_roll [.ref d, .int many] A = fin false A.length (b_law_roll [some (.ref d), some (.int many), none] A) := rfl
  have hg : ∀ o : AO, (A.set d o)[d]? = some o := fun o => List.getElem?_set_self hlt
  have hix : ∀ k : Int, ixD A (.ref d) (.int k) = atI [.int c0, .int c1, .int c2] k := fun k => ixD_ref hA
  have hix' : ∀ (ds : List D) (k : Int), ixD (A.set d (.lst ds)) (.ref d) (.int k) = atI ds k := fun ds k => ixD_ref (hg _)
  have hst : ∀ (k : Int) (y : D), setA A (.ref d) (.int k) y = (ixN 3 k).map fun t => A.set d (.lst ([.int c0, .int c1, .int c2].set t y)) := fun k y => setA_ref hA
  have hst' : ∀ (ds : List D) (k : Int) (y : D), setA (A.set d (.lst ds)) (.ref d) (.int k) y = (ixN ds.length k).map fun t => A.set d (.lst (ds.set t y)) := fun ds k y => by
    rw [setA_ref (hg _)]
    simp only [List.set_set]
  by_cases hc : c2 = 2 ∨ (c2 = 1 ∧ c0 > 0)
  · have hb : c0 / many = c0 / many := rfl
    refine ⟨c0 % many, [.int (c0 / many), .int c1, .int c2], ?_, Int.emod_nonneg _ (by omega), Int.emod_lt_of_pos _ (by omega), c0 / many, c1, c2, hg _, Nat.le_trans (log2_mono (Int.natAbs_ediv_le_natAbs _ _)) b0, by omega⟩
    rw [e0, ← fin_int (n := A.length) (A := A.set d (.lst [.int (c0 / many), .int c1, .int c2])) (by simp)]
    unfold b_law_roll
    have k1 : decide (many.natAbs.log2 < 9000) = true := by simp; omega
    have k2 : decide (0 < many) = true := by simp; omega
    have bz : ∀ b : Bool, decide (b = b) = true := fun b => by simp
    by_cases hc2 : c2 = 2
    · subst hc2
      simp only [bd, mB, mU, mN, rd, op, mV, mC, asB, mAndT, mOrT, mNotT, mAndV, mOrV, mNotV, mIf, aNil, aCons, mTup, mLs, frL, nwL, bS, sNil, sSeq, sRet, sEx, sIf, sSet, sSub, stO, sAsg, sPar, sAug, mCall, i2, b2, sz0, sz1, sz2, sz3, sz4, sz5, sz6, sz7, sz8, sz9, List.length_cons, List.length_nil, Nat.reduceAdd, List.getElem?_cons_zero, List.getElem?_cons_succ, List.set_cons_zero, List.set_cons_succ, if_true, if_false, decide_true, decide_false, Bool.true_and, Bool.and_true, Bool.false_eq_true, reduceCtorEq, ↓reduceIte, dInt, hix, hst, at30, at31, at32, ix30, ix31, ix32, eqD_int, ng, k1, k2, Option.map_some]
    · obtain ⟨hc1, hc0⟩ : c2 = 1 ∧ c0 > 0 := by omega
      subst hc1
      have k3 : decide (c0 > 0) = true := by simp; omega
      have k4 : decide ((1 : Int) = 2) = false := by decide
      simp only [bd, mB, mU, mN, rd, op, mV, mC, asB, mAndT, mOrT, mNotT, mAndV, mOrV, mNotV, mIf, aNil, aCons, mTup, mLs, frL, nwL, bS, sNil, sSeq, sRet, sEx, sIf, sSet, sSub, stO, sAsg, sPar, sAug, mCall, i2, b2, sz0, sz1, sz2, sz3, sz4, sz5, sz6, sz7, sz8, sz9, List.length_cons, List.length_nil, Nat.reduceAdd, List.getElem?_cons_zero, List.getElem?_cons_succ, List.set_cons_zero, List.set_cons_succ, if_true, if_false, decide_true, decide_false, Bool.true_and, Bool.and_true, Bool.false_eq_true, reduceCtorEq, ↓reduceIte, dInt, hix, hst, at30, at31, at32, ix30, ix31, ix32, eqD_int, ng, k1, k2, k3, k4, Option.map_some]
  · have k1 : decide (c2 = 2) = false := by simp; omega
    have k5 : ∀ z : Int, decide ((0 : Int) < 2147483647) = true := fun z => by decide
    have m1 : decide (c0.natAbs.log2 + (48271 : Int).natAbs.log2 < 100000000) = true := by
      have : (48271 : Int).natAbs.log2 = 15 := by decide
      rw [this]; simp; omega
    have m2 : decide (c1.natAbs.log2 + (69621 : Int).natAbs.log2 < 100000000) = true := by
      have : (69621 : Int).natAbs.log2 = 16 := by decide
      rw [this]
      have := log2_small (i := c1) (b := 64) (by decide) (by omega)
      simp; omega
    have m3 : decide ((0 : Int) < 2147483647) = true := by decide
    have m4 : (decide ((0 : Int) < 7) && decide ((7 : Int).natAbs.log2 < 9000)) = true := by decide
    have m5 : decide (0 < many) = true := by simp; omega
    generalize hz : (c0 * 48271 + c1 * 69621 + 11) % 2147483647 = z
    have z0 : 0 ≤ z := by rw [← hz]; exact Int.emod_nonneg _ (by decide)
    have z1 : z < 2147483647 := by rw [← hz]; exact Int.emod_lt_of_pos _ (by decide)
    have zl := log2_small (i := z) (b := 31) (by decide) (by omega)
    refine ⟨(z / 7 + z) % many, [.int z, .int (c1 + 1), .int 0], ?_, Int.emod_nonneg _ (by omega), Int.emod_lt_of_pos _ (by omega), z, c1 + 1, 0, hg _, by omega, by omega⟩
    rw [e0, ← fin_int (n := A.length) (A := A.set d (.lst [.int z, .int (c1 + 1), .int 0])) (by simp)]
    unfold b_law_roll
    by_cases hc1 : c2 = 1
    · have k2 : decide (c2 = 1) = true := by simp; omega
      have k3 : decide (c0 > 0) = false := by simp; omega
      simp only [bd, mB, mU, mN, rd, op, mV, mC, asB, mAndT, mOrT, mNotT, mAndV, mOrV, mNotV, mIf, aNil, aCons, mTup, mLs, frL, nwL, bS, sNil, sSeq, sRet, sEx, sIf, sSet, sSub, stO, sAsg, sPar, sAug, mCall, i2, b2, sz0, sz1, sz2, sz3, sz4, sz5, sz6, sz7, sz8, sz9, List.length_cons, List.length_nil, Nat.reduceAdd, List.getElem?_cons_zero, List.getElem?_cons_succ, List.set_cons_zero, List.set_cons_succ, if_true, if_false, decide_true, decide_false, Bool.true_and, Bool.and_true, Bool.false_eq_true, reduceCtorEq, ↓reduceIte, dInt, hix, hst, hix', hst', at30, at31, at32, ix30, ix31, ix32, eqD_int, ng, k1, k2, k3, m1, m2, m3, m4, m5, hz, Option.map_some]
    · have k2 : decide (c2 = 1) = false := by simp; omega
      simp only [bd, mB, mU, mN, rd, op, mV, mC, asB, mAndT, mOrT, mNotT, mAndV, mOrV, mNotV, mIf, aNil, aCons, mTup, mLs, frL, nwL, bS, sNil, sSeq, sRet, sEx, sIf, sSet, sSub, stO, sAsg, sPar, sAug, mCall, i2, b2, sz0, sz1, sz2, sz3, sz4, sz5, sz6, sz7, sz8, sz9, List.length_cons, List.length_nil, Nat.reduceAdd, List.getElem?_cons_zero, List.getElem?_cons_succ, List.set_cons_zero, List.set_cons_succ, if_true, if_false, decide_true, decide_false, Bool.true_and, Bool.and_true, Bool.false_eq_true, reduceCtorEq, ↓reduceIte, dInt, hix, hst, hix', hst', at30, at31, at32, ix30, ix31, ix32, eqD_int, ng, k1, k2, m1, m2, m3, m4, m5, hz, Option.map_some]
theorem eqD_nn {neg : Bool} {A : Sto} : eqD neg A (.lst []) (.lst []) = some (.bl (ng neg true)) := eqD_ints (ns := []) (ms := []) (by decide) (by decide)
theorem eqD_1n {neg : Bool} {A : Sto} {n : Int} : eqD neg A (.lst [.int n]) (.lst []) = some (.bl (ng neg false)) := eqD_ints (ns := [n]) (ms := []) (by simp) (by decide)
theorem cut_nil : cutD [] none (some 1) = [] := rfl
theorem cut_one {d : D} {ds : List D} : cutD (d :: ds) none (some 1) = [d] := by
  unfold cutD HT.sIx
  simp
theorem rounds_ok {ns : List Int} (h : ∀ z ∈ ns, Builtin.Int.intBits z ≤ 1048576) (A : Sto) : ∃ o, m_law_rounds [.lst (ns.map .int), .int 1] A = .ok (.lst [.ref A.length]) (A ++ [o]) ∧ Dice (A ++ [o]) A.length 0 := by
  have e0 : ∀ x y, m_law_rounds [x, y] A = fin false A.length (b_law_rounds [some x, some y, none, none] A) := fun x y => rfl
  have main : ∀ n : Int, Builtin.Int.intBits n ≤ 1048576 → ∃ o, Dice (A ++ [o]) A.length 0 ∧ lc_law_rounds_1 [some (.lst (ns.map .int)), some (.int 1), some (.lst [.int n]), none] A = .ok [.ref A.length] (A ++ [o]) := fun n hn => by
    obtain ⟨o, e, c0, c1, c2, rfl, b0, b1⟩ := dice_ok hn A
    refine ⟨.lst [.int c0, .int c1, .int c2], ⟨c0, c1, c2, by simp, b0, by omega⟩, ?_⟩
    unfold lc_law_rounds_1
    simp only [bd, mB, mU, mN, rd, op, mV, mC, asB, mAndT, mOrT, mNotT, mAndV, mOrV, mNotV, mIf, aNil, aCons, mTup, mLs, frL, nwL, bS, sNil, sSeq, sRet, sEx, sIf, sSet, sSub, stO, sAsg, sPar, sAug, mCall, i2, b2, sz0, sz1, sz2, sz3, sz4, sz5, sz6, sz7, sz8, sz9, List.length_cons, List.length_nil, Nat.reduceAdd, List.getElem?_cons_zero, List.getElem?_cons_succ, List.set_cons_zero, List.set_cons_succ, if_true, if_false, decide_true, decide_false, Bool.true_and, Bool.and_true, Bool.false_eq_true, reduceCtorEq, ↓reduceIte, mLc, lcL, gN, yesT, wipeD, mIt, seqB, e]
  have fn : ∀ (o : AO), fin false A.length (.rt (.lst [.ref A.length]) (A ++ [o])) = .ok (.lst [.ref A.length]) (A ++ [o]) := fun o => by
    unfold fin frzD killD trim2
    have : closed A.length (.lst [.ref A.length]) = false := by simp [closed, closedL]
    simp [this]
  cases ns with
  | nil =>
    obtain ⟨o, hd, e⟩ := main 0 (by decide)
    refine ⟨o, ?_, hd⟩
    rw [e0, ← fn]
    unfold b_law_rounds
    simp only [List.map_nil] at e
    simp only [bd, mB, mU, mN, rd, op, mV, mC, asB, mAndT, mOrT, mNotT, mAndV, mOrV, mNotV, mIf, aNil, aCons, mTup, mLs, frL, nwL, bS, sNil, sSeq, sRet, sEx, sIf, sSet, sSub, stO, sAsg, sPar, sAug, mCall, i2, b2, sz0, sz1, sz2, sz3, sz4, sz5, sz6, sz7, sz8, sz9, List.length_cons, List.length_nil, Nat.reduceAdd, List.getElem?_cons_zero, List.getElem?_cons_succ, List.set_cons_zero, List.set_cons_succ, if_true, if_false, decide_true, decide_false, Bool.true_and, Bool.and_true, Bool.false_eq_true, reduceCtorEq, ↓reduceIte, mSlL, oNo, oAt, lstOf, cut_nil, eqD_nn, ng, Option.map_some, List.map_nil, e]
  | cons n r =>
    obtain ⟨o, hd, e⟩ := main n (h n List.mem_cons_self)
    refine ⟨o, ?_, hd⟩
    rw [e0, ← fn]
    unfold b_law_rounds
    simp only [List.map_cons] at e
    simp only [bd, mB, mU, mN, rd, op, mV, mC, asB, mAndT, mOrT, mNotT, mAndV, mOrV, mNotV, mIf, aNil, aCons, mTup, mLs, frL, nwL, bS, sNil, sSeq, sRet, sEx, sIf, sSet, sSub, stO, sAsg, sPar, sAug, mCall, i2, b2, sz0, sz1, sz2, sz3, sz4, sz5, sz6, sz7, sz8, sz9, List.length_cons, List.length_nil, Nat.reduceAdd, List.getElem?_cons_zero, List.getElem?_cons_succ, List.set_cons_zero, List.set_cons_succ, if_true, if_false, decide_true, decide_false, Bool.true_and, Bool.and_true, Bool.false_eq_true, reduceCtorEq, ↓reduceIte, mSlL, oNo, oAt, lstOf, cut_one, eqD_1n, ng, Option.map_some, List.map_cons, e]
theorem Dice.mono {A : Sto} {d t t' : Nat} (h : Dice A d t) (ht : t ≤ t') : Dice A d t' := by
  obtain ⟨c0, c1, c2, a, b, c⟩ := h
  exact ⟨c0, c1, c2, a, b, by omega⟩
/-- all but the die stays -/
structure But (d : Nat) (A A' : Sto) : Prop where
  len : A'.length = A.length
  at_ : ∀ k, k ≠ d → A'[k]? = A[k]?
theorem But.refl {d : Nat} {A : Sto} : But d A A := ⟨rfl, fun _ _ => rfl⟩
theorem But.trans {d : Nat} {A B C : Sto} (h : But d A B) (g : But d B C) : But d A C := ⟨g.len.trans h.len, fun k hk => (g.at_ k hk).trans (h.at_ k hk)⟩
theorem But.set {d : Nat} {A : Sto} {o : AO} : But d A (A.set d o) := ⟨by simp, fun k hk => List.getElem?_set_ne (Ne.symm hk)⟩
/-- a call of the roll -/
theorem call_roll {m1 m2 : ME} {ρ : Sm.Env} {A : Sto} {d t : Nat} {q : Int} (h1 : m1 ρ A = .ok (.ref d) A) (h2 : m2 ρ A = .ok (.int q) A) (hD : Dice A d t) (ht : t < 2 ^ 40) (q1 : 1 ≤ q) (q2 : q.natAbs < 2 ^ 40) :
    ∃ (r : Int) (A' : Sto), mCall m_law_roll (aCons m1 (aCons m2 aNil)) ρ A = .ok (.int r) A' ∧ 0 ≤ r ∧ r < q ∧ Dice A' d (t + 1) ∧ But d A A' := by
  obtain ⟨r, ds, e, r0, r1, hD'⟩ := roll_ok hD ht q1 (Nat.lt_trans (log2_small (by decide) q2) (by decide))
  refine ⟨r, _, ?_, r0, r1, hD', .set⟩
  unfold mCall aCons bd
  simp only [h1, h2, bd, aNil, op]
  exact e
/-- a list of rolls -/
theorem rolls_ok {m : ME} {F : Int → D} {ρ : Sm.Env} {d j : Nat} {q : Int} (hm : ∀ (x : D) (A : Sto) (t : Nat), Dice A d t → t < 2 ^ 40 → ∃ (r : Int) (A' : Sto), m (ρ.set j (some x)) A = .ok (F r) A' ∧ 0 ≤ r ∧ r < q ∧ Dice A' d (t + 1) ∧ But d A A') :
    ∀ (ds : List D) (A : Sto) (t : Nat), Dice A d t → t + ds.length < 2 ^ 40 → ∃ (rs : List Int) (A' : Sto), lcL (gN j) yesT m ds ρ A = .ok (rs.map F) A' ∧ rs.length = ds.length ∧ (∀ r ∈ rs, 0 ≤ r ∧ r < q) ∧ Dice A' d (t + ds.length) ∧ But d A A'
  | [], A, t, hD, _ => ⟨[], A, rfl, rfl, by simp, hD, .refl⟩
  | x :: ds, A, t, hD, ht => by
    obtain ⟨r, A1, e1, r0, r1, hD1, b1⟩ := hm x A t hD (by simp at ht; omega)
    obtain ⟨rs, A2, e2, hl, hr, hD2, b2⟩ := rolls_ok hm ds A1 (t + 1) hD1 (by simp at ht; omega)
    refine ⟨r :: rs, A2, ?_, by simp [hl], fun r' h => ?_, hD2.mono (by simp; omega), b1.trans b2⟩
    · unfold lcL
      simp only [gN, yesT, e1, e2, List.map_cons]
    · rcases List.mem_cons.mp h with rfl | h
      · exact ⟨r0, r1⟩
      · exact hr r' h
end Common

set_option Elab.async false
set_option linter.all false
set_option autoImplicit false
set_option maxRecDepth 100000
set_option maxHeartbeats 4000000

namespace Law
open PySem L2 Evl PySem.Spec PyProof.Rows LamX Sm
def top (i : Nat) : Stmt := PySem.Challenge.pw_lessonwright_k12_few_places_of_many.main.body.getD i (.Pass ⟨0, 0, 0, 0⟩)
abbrev s_law_dice : Stmt := top 19
abbrev s_law_rounds : Stmt := top 21
abbrev s_Winnow__init : Stmt := inClass (top 12) 0
abbrev s_law_roll : Stmt := top 20
abbrev s_logarithm : Stmt := top 13
abbrev s_most_winnow : Stmt := top 14
abbrev s_is_any : Stmt := top 15
abbrev s_Winnow__guess : Stmt := inClass (top 12) 1
abbrev s_Winnow__see : Stmt := inClass (top 12) 2
abbrev s_alive : Stmt := top 16
abbrev s_weight_of : Stmt := top 17
abbrev s_law : Stmt := top 23
abbrev s_law_told : Stmt := top 22
def told_hs : List (Str × Str) := [("BadWord", "word"), ("BadMachine", "machine"), ("BadFormula", "formula"), ("BadExample", "example"), ("BadPaper", "paper"), ("BadSize", "size"), ("BadText", "text"), ("BadStore", "store"), ("NoSuch", "no such")]

def b_law_dice : MS := (sSeq (sIf (asB (mCh fLt fLt (mB fSub (mC (.int 0)) (mC (.int 10))) (mV 0) (mC (.int 10)))) (sRet (nwL (mLs (aCons (mN dAbs (aCons (mV 0) aNil)) (aCons (mC (.int 0)) (aCons (mC (.int 2)) aNil)))))) sNil) (sRet (nwL (mLs (aCons (mV 0) (aCons (mB fAdd (mC (.int 1)) (mB fMod (mN dInt (aCons (mV 0) aNil)) (mC (.int 1009)))) (aCons (mN dInt (aCons (mB fGe (mV 0) (mB fPow (mC (.int 10)) (mC (.int 18)))) aNil)) aNil)))))))
def m_law_dice : FM := fmOf false 1 b_law_dice
def lc_law_rounds_1 : MA := mLc [3] (mIt seqB (mV 2)) (gN 3) yesT (mCall m_law_dice (aCons (mV 3) aNil))
def b_law_rounds : MS := (sSeq (sSet 2 (frL (mSlL (mV 0) oNo (oAt (mV 1))))) (sSeq (sIf (asB (mB (eqD false) (mV 2) (frL (mLs aNil)))) (sSet 2 (frL (mLs (aCons (mC (.int 0)) aNil)))) sNil) (sRet (frL lc_law_rounds_1))))
def m_law_rounds : FM := fmOf false 4 b_law_rounds

def b_Winnow__init : MS := (sSeq (sFldD ["Winnow"] (mV 0) (mV 1) "many") (sSeq (sFldD ["Winnow"] (mV 0) (frL (mRepL (mLs (aCons (mC (.int 1)) aNil)) (mV 1))) "weights") (sSeq (sFldD ["Winnow"] (mV 0) (mC (.int 0)) "lacks") (sFldD ["Winnow"] (mV 0) (mC (.int 0)) "spares"))))
def m_Winnow__init : FM := fmOf false 2 b_Winnow__init

def b_law_roll : MS := (sSeq (sIf (mOrT (asB (mB (eqD false) (mB ixD (mV 0) (mC (.int 2))) (mC (.int 2)))) (mAndT (asB (mB (eqD false) (mB ixD (mV 0) (mC (.int 2))) (mC (.int 1)))) (asB (mB fGt (mB ixD (mV 0) (mC (.int 0))) (mC (.int 0)))))) (sSeq (sSet 2 (mB fMod (mN dInt (aCons (mB ixD (mV 0) (mC (.int 0))) aNil)) (mV 1))) (sSeq (sSub (mB fDiv (mB ixD (mV 0) (mC (.int 0))) (mV 1)) (mV 0) (mC (.int 0))) (sRet (mV 2)))) sNil) (sSeq (sSub (mC (.int 0)) (mV 0) (mC (.int 2))) (sSeq (sSub (mB fMod (mN dInt (aCons (mB fAdd (mB fAdd (mB fMul (mB ixD (mV 0) (mC (.int 0))) (mC (.int 48271))) (mB fMul (mB ixD (mV 0) (mC (.int 1))) (mC (.int 69621)))) (mC (.int 11))) aNil)) (mC (.int 2147483647))) (mV 0) (mC (.int 0))) (sSeq (sSub (mB fAdd (mB ixD (mV 0) (mC (.int 1))) (mC (.int 1))) (mV 0) (mC (.int 1))) (sRet (mB fMod (mN dInt (aCons (mB fAdd (mB fDiv (mB ixD (mV 0) (mC (.int 0))) (mC (.int 7))) (mB ixD (mV 0) (mC (.int 0)))) aNil)) (mV 1)))))))
def m_law_roll : FM := fmOf false 3 b_law_roll
def wb_logarithm_1 : MS := (sSeq (sSet 2 (mB fMul (mC (.int 2)) (mV 2))) (sAug 1 (mC (.int 1)) (fun i j => i + j)))
def wh_logarithm_2 : MS := whl (asB (mB fLt (mV 2) (mV 0))) wb_logarithm_1 fuelW
def b_logarithm : MS := (sSeq (sSet 1 (mC (.int 0))) (sSeq (sSet 2 (mC (.int 1))) (sSeq wh_logarithm_2 (sRet (mV 1)))))
def m_logarithm : FM := fmOf false 3 b_logarithm

def b_most_winnow : MS := (sRet (mB fAdd (mB fMul (mB fMul (mC (.int 2)) (mV 1)) (mB fAdd (mCall m_logarithm (aCons (mV 0) aNil)) (mC (.int 1)))) (mC (.int 2))))
def m_most_winnow : FM := fmOf false 2 b_most_winnow
def gx_is_any_1 : ME := mAny true 0 [2] (mIt seqB (mV 1)) (gN 2) yesT (mB (eqD false) (mB ixD (mV 0) (mV 2)) (mC (.int 1)))
def b_is_any : MS := (sRet gx_is_any_1)
def m_is_any : FM := fmOf false 3 b_is_any
def lc_Winnow__guess_1 : MA := mLc [3, 4] (mItN zip2 (aCons (mFldC ["Winnow"] (mV 0) "weights") (aCons (mV 1) aNil))) (gT 2 (gsCons (gN 3) (gsCons (gN 4) gsNil))) (asB (mB (eqD false) (mV 4) (mC (.int 1)))) (mV 3)
def b_Winnow__guess : MS := (sSeq (sSet 2 (mN (fInts fun ns => some ns.sum) (aCons (frL lc_Winnow__guess_1) aNil))) (sRet (mAndV (mB (eqD true) (mV 2) (mC (.int 0))) (mB fGe (mB fMul (mC (.int 2)) (mV 2)) (mFldC ["Winnow"] (mV 0) "many")))))
def m_Winnow__guess : FM := fmOf false 5 b_Winnow__guess
def lc_Winnow__see_1 : MA := mLc [3, 4] (mItN zip2 (aCons (mFldC ["Winnow"] (mV 0) "weights") (aCons (mV 1) aNil))) (gT 2 (gsCons (gN 3) (gsCons (gN 4) gsNil))) (asB (mB (eqD false) (mV 4) (mC (.int 1)))) (mB (eqD false) (mV 3) (mC (.int 0)))
def lc_Winnow__see_2 : MA := mLc [3, 4] (mItN zip2 (aCons (mFldC ["Winnow"] (mV 0) "weights") (aCons (mV 1) aNil))) (gT 2 (gsCons (gN 3) (gsCons (gN 4) gsNil))) yesT (mIf (asB (mB (eqD false) (mV 4) (mC (.int 1)))) (mB fMul (mC (.int 2)) (mV 3)) (mV 3))
def lc_Winnow__see_3 : MA := mLc [3, 4] (mItN zip2 (aCons (mFldC ["Winnow"] (mV 0) "weights") (aCons (mV 1) aNil))) (gT 2 (gsCons (gN 3) (gsCons (gN 4) gsNil))) yesT (mIf (asB (mB (eqD false) (mV 4) (mC (.int 1)))) (mC (.int 0)) (mV 3))
def b_Winnow__see : MS := (sSeq (sIf (mAndT (asB (mV 2)) (asB (mN (fBools fun bs => bs.all id) (aCons (frL lc_Winnow__see_1) aNil)))) (sRaise "BadExample") sNil) (sSeq (sSet 5 (mMeth [("Winnow", m_Winnow__guess)] "guess" (mV 0) (aCons (mV 1) aNil))) (sSeq (sIf (mAndT (asB (mV 2)) (mNotT (asB (mV 5)))) (sSeq (sFldD ["Winnow"] (mV 0) (frL lc_Winnow__see_2) "weights") (sAugFC ["Winnow"] (mV 0) (mC (.int 1)) "lacks" (fun i j => i + j))) sNil) (sSeq (sIf (mAndT (asB (mV 5)) (mNotT (asB (mV 2)))) (sSeq (sFldD ["Winnow"] (mV 0) (frL lc_Winnow__see_3) "weights") (sAugFC ["Winnow"] (mV 0) (mC (.int 1)) "spares" (fun i j => i + j))) sNil) (sRet (mV 5))))))
def m_Winnow__see : FM := fmOf false 6 b_Winnow__see
def lc_alive_1 : MA := mLc [1, 2] (mIt (fun d => (seqB d).map (enumD 0)) (mFldC ["Winnow"] (mV 0) "weights")) (gT 2 (gsCons (gN 1) (gsCons (gN 2) gsNil))) (asB (mB (eqD true) (mV 2) (mC (.int 0)))) (mV 1)
def b_alive : MS := (sRet (mN dTup (aCons (frL lc_alive_1) aNil)))
def m_alive : FM := fmOf false 3 b_alive

def b_weight_of : MS := (sRet (mN (fInts fun ns => some ns.sum) (aCons (mFldC ["Winnow"] (mV 0) "weights") aNil)))
def m_weight_of : FM := fmOf false 1 b_weight_of
def lc_law_1 : MA := mLc [4] (mItN rng1 (aCons (mB fAdd (mC (.int 1)) (mCall m_law_roll (aCons (mV 1) (aCons (mC (.int 2)) aNil)))) aNil)) (gN 4) yesT (mTup (aCons (mCall m_law_roll (aCons (mV 1) (aCons (mV 2) aNil))) (aCons (mC (.int 1)) aNil)))
def lc_law_2 : MA := mLc [4] (mItN rng1 (aCons (mV 2) aNil)) (gN 4) yesT (mCall m_law_roll (aCons (mV 1) (aCons (mC (.int 2)) aNil)))
def lc_law_3 : MA := mLc [4] (mIt seqB (mV 3)) (gN 4) (asB (mB (eqD false) (mB ixD (mV 10) (mV 4)) (mC (.int 1)))) (mV 4)
def lc_law_4 : MA := mLc [4] (mItN rng1 (aCons (mV 2) aNil)) (gN 4) (asB (mB (eqD false) (mB ixD (mV 10) (mV 4)) (mC (.int 1)))) (mB ixD (mV 6) (mV 4))
def lc_law_5 : MA := mLc [4] (mItN rng1 (aCons (mV 2) aNil)) (gN 4) yesT (mIf (asB (mB (eqD false) (mB ixD (mV 10) (mV 4)) (mC (.int 1)))) (mB fMul (mC (.int 2)) (mB ixD (mV 6) (mV 4))) (mB ixD (mV 6) (mV 4)))
def lc_law_6 : MA := mLc [4] (mItN rng1 (aCons (mV 2) aNil)) (gN 4) yesT (mIf (asB (mB (eqD false) (mB ixD (mV 10) (mV 4)) (mC (.int 1)))) (mC (.int 0)) (mB ixD (mV 6) (mV 4)))
def lc_law_7 : MA := mLc [4] (mIt seqB (mV 3)) (gN 4) (mOrT (asB (mB fLt (mB ixD (mV 6) (mV 4)) (mC (.int 1)))) (asB (mB fGt (mB ixD (mV 6) (mV 4)) (mV 2)))) (mV 4)
def lc_law_8 : MA := mLc [4] (mItN rng1 (aCons (mV 2) aNil)) (gN 4) (asB (mB fGt (mB ixD (mV 6) (mV 4)) (mC (.int 0)))) (mV 4)
def fb_law_9 : MS := (sSeq (sSet 10 (mN dTup (aCons (frL lc_law_2) aNil))) (sSeq (sSet 11 (mB (eqD true) (frL lc_law_3) (frL (mLs aNil)))) (sSeq (sSet 12 (mN (fInts fun ns => some ns.sum) (aCons (frL lc_law_4) aNil))) (sSeq (sSet 13 (mAndV (mB fGe (mB fMul (mC (.int 2)) (mV 12)) (mV 2)) (mB fGt (mV 12) (mC (.int 0))))) (sSeq (sIf (mOrT (asB (mB (eqD true) (mCall m_is_any (aCons (mV 10) (aCons (mV 3) aNil))) (mV 11))) (mOrT (asB (mB (eqD true) (mMeth [("Winnow", m_Winnow__guess)] "guess" (mV 5) (aCons (mV 10) aNil)) (mV 13))) (asB (mB (eqD true) (mMeth [("Winnow", m_Winnow__see)] "see" (mV 5) (aCons (mV 10) (aCons (mV 11) aNil))) (mV 13))))) (sRet (mC (.bl false))) sNil) (sSeq (sIf (mAndT (asB (mV 11)) (mNotT (asB (mV 13)))) (sAsg (mTup (aCons (mB fAdd (mV 7) (mC (.int 1))) (aCons (frL lc_law_5) aNil))) (gT 2 (gsCons (gN 7) (gsCons (gN 6) gsNil)))) sNil) (sSeq (sIf (mAndT (asB (mV 13)) (mNotT (asB (mV 11)))) (sAsg (mTup (aCons (mB fAdd (mV 8) (mC (.int 1))) (aCons (frL lc_law_6) aNil))) (gT 2 (gsCons (gN 8) (gsCons (gN 6) gsNil)))) sNil) (sSeq (sIf (mOrT (asB (mB (eqD true) (mFldC ["Winnow"] (mV 5) "weights") (mV 6))) (asB (mB (eqD true) (mTup (aCons (mFldC ["Winnow"] (mV 5) "lacks") (aCons (mFldC ["Winnow"] (mV 5) "spares") aNil))) (mTup (aCons (mV 7) (aCons (mV 8) aNil)))))) (sRet (mC (.bl false))) sNil) (sIf (mOrT (asB (mB (eqD true) (frL lc_law_7) (frL (mLs aNil)))) (mOrT (asB (mB (eqD true) (mCall m_alive (aCons (mV 5) aNil)) (mN dTup (aCons (frL lc_law_8) aNil)))) (asB (mB (eqD true) (mCall m_weight_of (aCons (mV 5) aNil)) (mN (fInts fun ns => some ns.sum) (aCons (mV 6) aNil)))))) (sRet (mC (.bl false))) sNil)))))))))
def wb_law_10 : MS := (sSet 14 (mB fAdd (mV 14) (mC (.int 1))))
def wh_law_11 : MS := whl (asB (mB fLt (mB ixD (frL (mLs (aCons (mC (.int 1)) (aCons (mC (.int 2)) (aCons (mC (.int 4)) (aCons (mC (.int 8)) aNil)))))) (mV 14)) (mV 2))) wb_law_10 fuelW
def tl_law_12 : ME := (mMeth [("Winnow", m_Winnow__see)] "see" (mV 15) (aCons (mB repT (mTup (aCons (mC (.int 0)) aNil)) (mV 2)) (aCons (mC (.bl true)) aNil)))
def fb_law_13 : MS := (sSeq (sSet 2 (mB fAdd (mC (.int 1)) (mCall m_law_roll (aCons (mV 1) (aCons (mC (.int 8)) aNil))))) (sSeq (sSet 3 (frL (mNL dSortDI (aCons (mN dDictP (aCons (frL lc_law_1) aNil)) aNil)))) (sSeq (sAsg (mTup (aCons (mMake "Winnow" m_Winnow__init (aCons (mV 2) aNil)) (aCons (frL (mRepL (mLs (aCons (mC (.int 1)) aNil)) (mV 2))) (aCons (mC (.int 0)) (aCons (mC (.int 0)) aNil))))) (gT 4 (gsCons (gN 5) (gsCons (gN 6) (gsCons (gN 7) (gsCons (gN 8) gsNil)))))) (sSeq (sFor (mItN rng1 (aCons (mCall m_law_roll (aCons (mV 1) (aCons (mC (.int 13)) aNil))) aNil)) (gN 9) fb_law_9) (sSeq (sIf (mOrT (asB (mB fGt (mB fAdd (mV 7) (mV 8)) (mCall m_most_winnow (aCons (mV 2) (aCons (mN dLen (aCons (mV 3) aNil)) aNil))))) (asB (mB fGt (mV 8) (mB fAdd (mV 7) (mC (.int 2)))))) (sRet (mC (.bl false))) sNil) (sSeq (sSet 14 (mC (.int 0))) (sSeq wh_law_11 (sSeq (sIf (mOrT (asB (mB (eqD true) (mCall m_logarithm (aCons (mV 2) aNil)) (mV 14))) (asB (mB (eqD true) (mCall m_most_winnow (aCons (mV 2) (aCons (mN dLen (aCons (mV 3) aNil)) aNil))) (mB fAdd (mB fMul (mB fMul (mC (.int 2)) (mN dLen (aCons (mV 3) aNil))) (mB fAdd (mV 14) (mC (.int 1)))) (mC (.int 2)))))) (sRet (mC (.bl false))) sNil) (sSeq (sSet 15 (mMake "Winnow" m_Winnow__init (aCons (mV 2) aNil))) (sIf (mOrT (asB (mB (eqD true) (mTold 1 "law.<locals>.<lambda>" told_hs ["BadExample"] tl_law_12) (mC (.str "example")))) (asB (mB (eqD true) (mFldC ["Winnow"] (mV 15) "lacks") (mC (.int 0))))) (sRet (mC (.bl false))) sNil))))))))))
def b_law : MS := (sSeq (sFor (mIt seqB (mCall m_law_rounds (aCons (mV 0) (aCons (mC (.int 1)) aNil)))) (gN 1) fb_law_13) (sRet (mC (.bl true))))
def m_law : FM := fmOf false 16 b_law
structure Txt (K : PySem.W.Frag) (mg : Str → Option Value) where
  a_law_dice : Addr
  fd_law_dice : FuncData
  F_law_dice : L2.Fun K "_law_dice" "_law_dice" s_law_dice a_law_dice fd_law_dice
  b_law_dice : L2.Binds K fd_law_dice ["cell"] []
  g_law_dice : mg "_law_dice" = some (.ref a_law_dice)
  a_law_rounds : Addr
  fd_law_rounds : FuncData
  F_law_rounds : L2.Fun K "_law_rounds" "_law_rounds" s_law_rounds a_law_rounds fd_law_rounds
  b_law_rounds : L2.Binds K fd_law_rounds ["script", "most"] []
  g_law_rounds : mg "_law_rounds" = some (.ref a_law_rounds)
  a_Winnow__init : Addr
  fd_Winnow__init : FuncData
  F_Winnow__init : L2.Fun K "__init__" "Winnow.__init__" s_Winnow__init a_Winnow__init fd_Winnow__init
  b_Winnow__init : L2.Binds K fd_Winnow__init ["self", "many"] []
  a_law_roll : Addr
  fd_law_roll : FuncData
  F_law_roll : L2.Fun K "_law_roll" "_law_roll" s_law_roll a_law_roll fd_law_roll
  b_law_roll : L2.Binds K fd_law_roll ["dice", "many"] []
  g_law_roll : mg "_law_roll" = some (.ref a_law_roll)
  a_logarithm : Addr
  fd_logarithm : FuncData
  F_logarithm : L2.Fun K "logarithm" "logarithm" s_logarithm a_logarithm fd_logarithm
  b_logarithm : L2.Binds K fd_logarithm ["many"] []
  g_logarithm : mg "logarithm" = some (.ref a_logarithm)
  a_most_winnow : Addr
  fd_most_winnow : FuncData
  F_most_winnow : L2.Fun K "most_winnow" "most_winnow" s_most_winnow a_most_winnow fd_most_winnow
  b_most_winnow : L2.Binds K fd_most_winnow ["many", "few"] []
  g_most_winnow : mg "most_winnow" = some (.ref a_most_winnow)
  a_is_any : Addr
  fd_is_any : FuncData
  F_is_any : L2.Fun K "is_any" "is_any" s_is_any a_is_any fd_is_any
  b_is_any : L2.Binds K fd_is_any ["point", "places"] []
  g_is_any : mg "is_any" = some (.ref a_is_any)
  a_Winnow__guess : Addr
  fd_Winnow__guess : FuncData
  F_Winnow__guess : L2.Fun K "guess" "Winnow.guess" s_Winnow__guess a_Winnow__guess fd_Winnow__guess
  b_Winnow__guess : L2.Binds K fd_Winnow__guess ["self", "point"] []
  a_Winnow__see : Addr
  fd_Winnow__see : FuncData
  F_Winnow__see : L2.Fun K "see" "Winnow.see" s_Winnow__see a_Winnow__see fd_Winnow__see
  b_Winnow__see : L2.Binds K fd_Winnow__see ["self", "point", "take"] []
  a_alive : Addr
  fd_alive : FuncData
  F_alive : L2.Fun K "alive" "alive" s_alive a_alive fd_alive
  b_alive : L2.Binds K fd_alive ["learner"] []
  g_alive : mg "alive" = some (.ref a_alive)
  a_weight_of : Addr
  fd_weight_of : FuncData
  F_weight_of : L2.Fun K "weight_of" "weight_of" s_weight_of a_weight_of fd_weight_of
  b_weight_of : L2.Binds K fd_weight_of ["learner"] []
  g_weight_of : mg "weight_of" = some (.ref a_weight_of)
  a_law : Addr
  fd_law : FuncData
  F_law : L2.Fun K "law" "law" s_law a_law fd_law
  b_law : L2.Binds K fd_law ["script"] []
  g_law : mg "law" = some (.ref a_law)
  a_law_told : Addr
  fd_law_told : FuncData
  F_law_told : L2.Fun K "_law_told" "_law_told" s_law_told a_law_told fd_law_told
  b_law_told : L2.Binds K fd_law_told ["what"] []
  g_law_told : mg "_law_told" = some (.ref a_law_told)
  C_Winnow : Addr
  g_Winnow : mg "Winnow" = some (.ref C_Winnow)
  cl_Winnow : Cls K C_Winnow
  mk_Winnow : Mk K C_Winnow a_Winnow__init
  na_Winnow_many : NoAttr K C_Winnow "many"
  na_Winnow_weights : NoAttr K C_Winnow "weights"
  na_Winnow_lacks : NoAttr K C_Winnow "lacks"
  na_Winnow_spares : NoAttr K C_Winnow "spares"
  mt_Winnow__guess : Meth K C_Winnow "guess" a_Winnow__guess
  mt_Winnow__see : Meth K C_Winnow "see" a_Winnow__see
  ex_BadExample : EX1 K mg "BadExample"
  z_abs : mg "abs" = none
  z_all : mg "all" = none
  z_any : mg "any" = none
  z_dict : mg "dict" = none
  z_enumerate : mg "enumerate" = none
  z_int : mg "int" = none
  z_len : mg "len" = none
  z_range : mg "range" = none
  z_sorted : mg "sorted" = none
  z_sum : mg "sum" = none
  z_tuple : mg "tuple" = none
  z_zip : mg "zip" = none
  told_gl : ∀ h ∈ told_hs, (defScope s_law_told).names.lookup h.1 = some .globalImplicit ∧ (h.1 == ("__debug__" : Str)) = false ∧ ∃ C, mg h.1 = some C
  told_ex : ExTell K mg told_hs ["BadExample"]
  c_is_any : Addr
  code_is_any : fd_is_any.code = .ref c_is_any
  c_law : Addr
  code_law : fd_law.code = .ref c_law
structure Tbs {K : PySem.W.Frag} {mg : Str → Option Value} (T : Txt K mg) (base : Heap) (tb : Tb) : Prop where
  ok : True
  b_0 : TabB base mg T.c_is_any (tb.tab 0)
  b_1 : TabB base mg T.c_law (tb.tab 1)
section
variable {P : Program} {w : World} {K : PySem.W.Frag} {mg : Str → Option Value} {base : Heap} {tb : Tb}
theorem sc_law_told : FnScope ["what"] ["what"] (defScope s_law_told) := ⟨rfl, rfl, rfl, by decide +kernel, rfl, by decide +kernel, by decide +kernel⟩
theorem told_ht : HdsT (match defBody s_law_told with | [.Try _ hds _ _ _] => hds | _ => []) told_hs := .cons (.cons (.cons (.cons (.cons (.cons (.cons (.cons (.cons (.nil)))))))))
theorem sc_law_dice : FnScope ["cell"] ["cell"] (defScope s_law_dice) := ⟨rfl, rfl, rfl, by decide +kernel, rfl, by decide +kernel, by decide +kernel⟩
theorem ok_law_dice (T : Txt K mg) (TT : Tbs T base tb) : FnG P w K mg base tb 1 T.a_law_dice 1 m_law_dice := by
  exact fng_of false T.F_law_dice T.b_law_dice sc_law_dice fun cdv hcode A outer s H E hr tk po => (show SSs _ _ _ b_law_dice from
    (sss_cons (ss_if (st_chain op_lt op_lt op2_b0 op2_b0 (se_sub se_int se_int) (sv 0) se_int) (sss_one (ss_ret (se_nwL (sl_lst (sa_cons (se_abs (hm := T.z_abs) (ha := (sa_cons (sv 0) sa_nil))) (sa_cons se_int (sa_cons se_int sa_nil))))))) sss_nil) (sss_one (ss_ret (se_nwL (sl_lst (sa_cons (sv 0) (sa_cons (se_add se_int (se_mod (se_toInt (hm := T.z_int) (ha := (sa_cons (sv 0) sa_nil))) se_int)) (sa_cons (se_toInt (hm := T.z_int) (ha := (sa_cons (se_ge (sv 0) (se_pow se_int se_int)) sa_nil))) sa_nil)))))))))
theorem sc_law_rounds : FnScope ["script", "most", "cells", "cell"] ["script", "most"] (defScope s_law_rounds) := ⟨rfl, rfl, rfl, by decide +kernel, rfl, by decide +kernel, by decide +kernel⟩
theorem ok_law_rounds (T : Txt K mg) (TT : Tbs T base tb) : FnG P w K mg base tb 2 T.a_law_rounds 2 m_law_rounds := by
  exact fng_of false T.F_law_rounds T.b_law_rounds sc_law_rounds fun cdv hcode A outer s H E hr tk po => (show SSs _ _ _ b_law_rounds from
    (sss_cons (ss_set (i := 2) sc_law_rounds.nd rfl (by first | exact Or.inl rfl | exact Or.inr rfl) (se_frL (sl_sliceL (sv 0) so_none (so_some (sv 1))))) (sss_cons (ss_if (st_eq hr (sv 2) (se_frL (sl_lst sa_nil))) (sss_one (ss_set (i := 2) sc_law_rounds.nd rfl (by first | exact Or.inl rfl | exact Or.inr rfl) (se_frL (sl_lst (sa_cons se_int sa_nil))))) sss_nil) (sss_one (ss_ret (se_frL (sl_lc (own := [("cell", 3)]) rfl sc_law_rounds.nd (si_list (sv 2)) (blkOk_by (by kernel_rfl)) (fun _ _ _ _ _ => (sg_name (i := 3) sc_law_rounds.nd rfl (by first | exact Or.inl rfl | exact Or.inr rfl))) (fun _ _ _ _ _ => sp_nil) (fun _ _ _ _ _ => (se_call ((ok_law_dice T TT).fd hr) takesF rfl T.g_law_dice (sa_cons (sv 3) sa_nil) rfl (aCons_len aNil_len))))))))))
theorem sc_Winnow__init : FnScope ["self", "many"] ["self", "many"] (defScope s_Winnow__init) := ⟨rfl, rfl, rfl, by decide +kernel, rfl, by decide +kernel, by decide +kernel⟩
theorem ok_Winnow__init (T : Txt K mg) (TT : Tbs T base tb) : FnG P w K mg base tb 1 T.a_Winnow__init 2 m_Winnow__init := by
  exact fng_of false T.F_Winnow__init T.b_Winnow__init sc_Winnow__init fun cdv hcode A outer s H E hr tk po => (show SSs _ _ _ b_Winnow__init from
    (sss_cons (ss_fld (cls_one T.g_Winnow T.cl_Winnow T.na_Winnow_many) (sv 0) (sv 1)) (sss_cons (ss_fld (cls_one T.g_Winnow T.cl_Winnow T.na_Winnow_weights) (sv 0) (se_frL (sl_rep (sl_lst (sa_cons se_int sa_nil)) (sv 1)))) (sss_cons (ss_fld (cls_one T.g_Winnow T.cl_Winnow T.na_Winnow_lacks) (sv 0) se_int) (sss_one (ss_fld (cls_one T.g_Winnow T.cl_Winnow T.na_Winnow_spares) (sv 0) se_int))))))
theorem sc_law_roll : FnScope ["dice", "many", "found"] ["dice", "many"] (defScope s_law_roll) := ⟨rfl, rfl, rfl, by decide +kernel, rfl, by decide +kernel, by decide +kernel⟩
theorem ok_law_roll (T : Txt K mg) (TT : Tbs T base tb) : FnG P w K mg base tb 1 T.a_law_roll 2 m_law_roll := by
  exact fng_of false T.F_law_roll T.b_law_roll sc_law_roll fun cdv hcode A outer s H E hr tk po => (show SSs _ _ _ b_law_roll from
    (sss_cons (ss_if (SW.st (sw_or (st_eq hr (se_ix (sv 0) se_int) se_int) (sw_or1 (SW.st (sw_and (st_eq hr (se_ix (sv 0) se_int) se_int) (sw_and1 (st_gt (se_ix (sv 0) se_int) se_int))))))) (sss_cons (ss_set (i := 2) sc_law_roll.nd rfl (by first | exact Or.inl rfl | exact Or.inr rfl) (se_mod (se_toInt (hm := T.z_int) (ha := (sa_cons (se_ix (sv 0) se_int) sa_nil))) (sv 1))) (sss_cons (ss_sub (sv 0) se_int (se_div (se_ix (sv 0) se_int) (sv 1))) (sss_one (ss_ret (sv 2))))) sss_nil) (sss_cons (ss_sub (sv 0) se_int se_int) (sss_cons (ss_sub (sv 0) se_int (se_mod (se_toInt (hm := T.z_int) (ha := (sa_cons (se_add (se_add (se_mul (se_ix (sv 0) se_int) se_int) (se_mul (se_ix (sv 0) se_int) se_int)) se_int) sa_nil))) se_int)) (sss_cons (ss_sub (sv 0) se_int (se_add (se_ix (sv 0) se_int) se_int)) (sss_one (ss_ret (se_mod (se_toInt (hm := T.z_int) (ha := (sa_cons (se_add (se_div (se_ix (sv 0) se_int) se_int) (se_ix (sv 0) se_int)) sa_nil))) (sv 1)))))))))
theorem sc_logarithm : FnScope ["many", "count", "reach"] ["many"] (defScope s_logarithm) := ⟨rfl, rfl, rfl, by decide +kernel, rfl, by decide +kernel, by decide +kernel⟩
theorem ok_logarithm (T : Txt K mg) (TT : Tbs T base tb) : FnG P w K mg base tb 1 T.a_logarithm 1 m_logarithm := by
  exact fng_of false T.F_logarithm T.b_logarithm sc_logarithm fun cdv hcode A outer s H E hr tk po => (show SSs _ _ _ b_logarithm from
    (sss_cons (ss_set (i := 1) sc_logarithm.nd rfl (by first | exact Or.inl rfl | exact Or.inr rfl) se_int) (sss_cons (ss_set (i := 2) sc_logarithm.nd rfl (by first | exact Or.inl rfl | exact Or.inr rfl) se_int) (sss_cons (ss_while po (st_lt (sv 2) (sv 0)) (sss_cons (ss_set (i := 2) sc_logarithm.nd rfl (by first | exact Or.inl rfl | exact Or.inr rfl) (se_mul se_int (sv 2))) (sss_one (ss_aug (i := 1) ip_add sc_logarithm.nd rfl (by first | exact Or.inl rfl | exact Or.inr rfl) se_int)))) (sss_one (ss_ret (sv 1)))))))
theorem sc_most_winnow : FnScope ["many", "few"] ["many", "few"] (defScope s_most_winnow) := ⟨rfl, rfl, rfl, by decide +kernel, rfl, by decide +kernel, by decide +kernel⟩
theorem ok_most_winnow (T : Txt K mg) (TT : Tbs T base tb) : FnG P w K mg base tb 2 T.a_most_winnow 2 m_most_winnow := by
  exact fng_of false T.F_most_winnow T.b_most_winnow sc_most_winnow fun cdv hcode A outer s H E hr tk po => (show SSs _ _ _ b_most_winnow from
    (sss_one (ss_ret (se_add (se_mul (se_mul se_int (sv 1)) (se_add (se_call ((ok_logarithm T TT).fd hr) tk rfl T.g_logarithm (sa_cons (sv 0) sa_nil) rfl (aCons_len aNil_len)) se_int)) se_int))))
theorem sc_is_any : FnScope ["point", "places", "place"] ["point", "places"] (defScope s_is_any) := ⟨rfl, rfl, rfl, by decide +kernel, rfl, by decide +kernel, by decide +kernel⟩
theorem ok_is_any (T : Txt K mg) (TT : Tbs T base tb) : FnG P w K mg base tb 2 T.a_is_any 2 m_is_any := by
  exact fng_of false T.F_is_any T.b_is_any sc_is_any fun cdv hcode A outer s H E hr tk po => (show SSs _ _ _ b_is_any from
    (sss_one (ss_ret (se_any (own := [("place", 2)]) (k := 0) rfl (hr.mono (by decide)) rfl T.z_any (gtab TT.b_0) (hcode.symm.trans T.code_is_any) (si_list (sv 1)) ⟨blkOk_by (by kernel_rfl), rfl, by decide +kernel, rfl⟩ sc_is_any.nd (fun _ _ _ _ _ _ _ hr => (sg_name (i := 2) sc_is_any.nd rfl (by first | exact Or.inl rfl | exact Or.inr rfl))) (fun _ _ _ _ _ _ _ hr => sp_nil) (fun _ _ _ _ _ _ _ hr => (se_eq hr (se_ix (sv 0) (sv 2)) se_int))))))
theorem sc_Winnow__guess : FnScope ["self", "point", "whole", "weight", "bit"] ["self", "point"] (defScope s_Winnow__guess) := ⟨rfl, rfl, rfl, by decide +kernel, rfl, by decide +kernel, by decide +kernel⟩
theorem ok_Winnow__guess (T : Txt K mg) (TT : Tbs T base tb) : FnG P w K mg base tb 1 T.a_Winnow__guess 2 m_Winnow__guess := by
  exact fng_of false T.F_Winnow__guess T.b_Winnow__guess sc_Winnow__guess fun cdv hcode A outer s H E hr tk po => (show SSs _ _ _ b_Winnow__guess from
    (sss_cons (ss_set (i := 2) sc_Winnow__guess.nd rfl (by first | exact Or.inl rfl | exact Or.inr rfl) (se_sum (hm := T.z_sum) (ha := (sa_cons (se_frL (sl_lc (own := [("weight", 3), ("bit", 4)]) rfl sc_Winnow__guess.nd (si_zip rfl T.z_zip (sa_cons (se_fld (cls_one T.g_Winnow T.cl_Winnow T.na_Winnow_weights) (sv 0)) (sa_cons (sv 1) sa_nil))) (blkOk_by (by kernel_rfl)) (fun _ _ _ _ _ => (sg_tup rfl (sgs_cons (sg_name (i := 3) sc_Winnow__guess.nd rfl (by first | exact Or.inl rfl | exact Or.inr rfl)) (sgs_cons (sg_name (i := 4) sc_Winnow__guess.nd rfl (by first | exact Or.inl rfl | exact Or.inr rfl)) sgs_nil)))) (fun _ _ _ _ _ => (sp_one (st_eq hr (sv 4) se_int))) (fun _ _ _ _ _ => (sv 3)))) sa_nil)))) (sss_one (ss_ret (se_and (se_ne hr (sv 2) se_int) (se_one (se_ge (se_mul se_int (sv 2)) (se_fld (cls_one T.g_Winnow T.cl_Winnow T.na_Winnow_many) (sv 0)))))))))
theorem sc_Winnow__see : FnScope ["self", "point", "take", "weight", "bit", "guess"] ["self", "point", "take"] (defScope s_Winnow__see) := ⟨rfl, rfl, rfl, by decide +kernel, rfl, by decide +kernel, by decide +kernel⟩
theorem ok_Winnow__see (T : Txt K mg) (TT : Tbs T base tb) : FnG P w K mg base tb 2 T.a_Winnow__see 3 m_Winnow__see := by
  exact fng_of false T.F_Winnow__see T.b_Winnow__see sc_Winnow__see fun cdv hcode A outer s H E hr tk po => (show SSs _ _ _ b_Winnow__see from
    (sss_cons (ss_if (SW.st (sw_and (st_val (sv 2)) (sw_and1 (st_val (se_allL (hm := T.z_all) (ha := (sa_cons (se_frL (sl_lc (own := [("weight", 3), ("bit", 4)]) rfl sc_Winnow__see.nd (si_zip rfl T.z_zip (sa_cons (se_fld (cls_one T.g_Winnow T.cl_Winnow T.na_Winnow_weights) (sv 0)) (sa_cons (sv 1) sa_nil))) (blkOk_by (by kernel_rfl)) (fun _ _ _ _ _ => (sg_tup rfl (sgs_cons (sg_name (i := 3) sc_Winnow__see.nd rfl (by first | exact Or.inl rfl | exact Or.inr rfl)) (sgs_cons (sg_name (i := 4) sc_Winnow__see.nd rfl (by first | exact Or.inl rfl | exact Or.inr rfl)) sgs_nil)))) (fun _ _ _ _ _ => (sp_one (st_eq hr (sv 4) se_int))) (fun _ _ _ _ _ => (se_eq hr (sv 3) se_int)))) sa_nil))))))) (sss_one (ss_raise rfl tk T.ex_BadExample rfl)) sss_nil) (sss_cons (ss_set (i := 5) sc_Winnow__see.nd rfl (by first | exact Or.inl rfl | exact Or.inr rfl) (se_meth (md_more ((ok_Winnow__guess T TT).md T.g_Winnow T.cl_Winnow T.mt_Winnow__guess hr) md_nil) tk (sv 0) (sa_cons (sv 1) sa_nil) (aCons_len aNil_len) rfl)) (sss_cons (ss_if (SW.st (sw_and (st_val (sv 2)) (sw_and1 (st_not (st_val (sv 5)))))) (sss_cons (ss_fld (cls_one T.g_Winnow T.cl_Winnow T.na_Winnow_weights) (sv 0) (se_frL (sl_lc (own := [("weight", 3), ("bit", 4)]) rfl sc_Winnow__see.nd (si_zip rfl T.z_zip (sa_cons (se_fld (cls_one T.g_Winnow T.cl_Winnow T.na_Winnow_weights) (sv 0)) (sa_cons (sv 1) sa_nil))) (blkOk_by (by kernel_rfl)) (fun _ _ _ _ _ => (sg_tup rfl (sgs_cons (sg_name (i := 3) sc_Winnow__see.nd rfl (by first | exact Or.inl rfl | exact Or.inr rfl)) (sgs_cons (sg_name (i := 4) sc_Winnow__see.nd rfl (by first | exact Or.inl rfl | exact Or.inr rfl)) sgs_nil)))) (fun _ _ _ _ _ => sp_nil) (fun _ _ _ _ _ => (se_if (st_eq hr (sv 4) se_int) (se_mul se_int (sv 3)) (sv 3)))))) (sss_one (ss_augf ip_add (cls_one T.g_Winnow T.cl_Winnow T.na_Winnow_lacks) (sv 0) se_int))) sss_nil) (sss_cons (ss_if (SW.st (sw_and (st_val (sv 5)) (sw_and1 (st_not (st_val (sv 2)))))) (sss_cons (ss_fld (cls_one T.g_Winnow T.cl_Winnow T.na_Winnow_weights) (sv 0) (se_frL (sl_lc (own := [("weight", 3), ("bit", 4)]) rfl sc_Winnow__see.nd (si_zip rfl T.z_zip (sa_cons (se_fld (cls_one T.g_Winnow T.cl_Winnow T.na_Winnow_weights) (sv 0)) (sa_cons (sv 1) sa_nil))) (blkOk_by (by kernel_rfl)) (fun _ _ _ _ _ => (sg_tup rfl (sgs_cons (sg_name (i := 3) sc_Winnow__see.nd rfl (by first | exact Or.inl rfl | exact Or.inr rfl)) (sgs_cons (sg_name (i := 4) sc_Winnow__see.nd rfl (by first | exact Or.inl rfl | exact Or.inr rfl)) sgs_nil)))) (fun _ _ _ _ _ => sp_nil) (fun _ _ _ _ _ => (se_if (st_eq hr (sv 4) se_int) se_int (sv 3)))))) (sss_one (ss_augf ip_add (cls_one T.g_Winnow T.cl_Winnow T.na_Winnow_spares) (sv 0) se_int))) sss_nil) (sss_one (ss_ret (sv 5))))))))
theorem sc_alive : FnScope ["learner", "place", "weight"] ["learner"] (defScope s_alive) := ⟨rfl, rfl, rfl, by decide +kernel, rfl, by decide +kernel, by decide +kernel⟩
theorem ok_alive (T : Txt K mg) (TT : Tbs T base tb) : FnG P w K mg base tb 1 T.a_alive 1 m_alive := by
  exact fng_of false T.F_alive T.b_alive sc_alive fun cdv hcode A outer s H E hr tk po => (show SSs _ _ _ b_alive from
    (sss_one (ss_ret (se_toTup (hm := T.z_tuple) (ha := (sa_cons (se_frL (sl_lc (own := [("place", 1), ("weight", 2)]) rfl sc_alive.nd (si_enum rfl T.z_enumerate (se_fld (cls_one T.g_Winnow T.cl_Winnow T.na_Winnow_weights) (sv 0))) (blkOk_by (by kernel_rfl)) (fun _ _ _ _ _ => (sg_tup rfl (sgs_cons (sg_name (i := 1) sc_alive.nd rfl (by first | exact Or.inl rfl | exact Or.inr rfl)) (sgs_cons (sg_name (i := 2) sc_alive.nd rfl (by first | exact Or.inl rfl | exact Or.inr rfl)) sgs_nil)))) (fun _ _ _ _ _ => (sp_one (st_ne hr (sv 2) se_int))) (fun _ _ _ _ _ => (sv 1)))) sa_nil))))))
theorem sc_weight_of : FnScope ["learner"] ["learner"] (defScope s_weight_of) := ⟨rfl, rfl, rfl, by decide +kernel, rfl, by decide +kernel, by decide +kernel⟩
theorem ok_weight_of (T : Txt K mg) (TT : Tbs T base tb) : FnG P w K mg base tb 1 T.a_weight_of 1 m_weight_of := by
  exact fng_of false T.F_weight_of T.b_weight_of sc_weight_of fun cdv hcode A outer s H E hr tk po => (show SSs _ _ _ b_weight_of from
    (sss_one (ss_ret (se_sum (hm := T.z_sum) (ha := (sa_cons (se_fld (cls_one T.g_Winnow T.cl_Winnow T.na_Winnow_weights) (sv 0)) sa_nil))))))
theorem sc_law : FnScope ["script", "dice", "many", "places", "k", "learner", "weights", "lacks", "spares", "turn", "point", "take", "whole", "guess", "power_now", "refused"] ["script"] (defScope s_law) := ⟨rfl, rfl, rfl, by decide +kernel, rfl, by decide +kernel, by decide +kernel⟩
theorem ok_law (T : Txt K mg) (TT : Tbs T base tb) : FnOk P w K mg base (L2.CX P w) 5 T.a_law T.fd_law ["script"] (spM K mg tb 1 m_law) := by
  obtain ⟨oc, od, kV, doc, pm, an, cdT, ct, osl, eT, lkT, hcT⟩ := T.F_law_told.ex
  have bT := T.b_law_told
  rw [eT] at bT lkT
  exact fd_of (fz := false) T.F_law sc_law fun cdv hcode A outer s H E hr tk po => (show SSs _ _ _ b_law from
    (sss_cons (ss_for po rfl (si_list (se_call ((ok_law_rounds T TT).fd hr) tk rfl T.g_law_rounds (sa_cons (sv 0) (sa_cons se_int sa_nil)) rfl (aCons_len (aCons_len aNil_len)))) (sg_name (i := 1) sc_law.nd rfl (by first | exact Or.inl rfl | exact Or.inr rfl)) (sss_cons (ss_set (i := 2) sc_law.nd rfl (by first | exact Or.inl rfl | exact Or.inr rfl) (se_add se_int (se_call ((ok_law_roll T TT).fd hr) tk rfl T.g_law_roll (sa_cons (sv 1) (sa_cons se_int sa_nil)) rfl (aCons_len (aCons_len aNil_len))))) (sss_cons (ss_set (i := 3) sc_law.nd rfl (by first | exact Or.inl rfl | exact Or.inr rfl) (se_frL (sl_sortDI rfl rfl T.z_sorted (sa_cons (se_dictP rfl rfl T.z_dict (sa_cons (se_frL (sl_lc (own := [("k", 4)]) rfl sc_law.nd (si_rng1 rfl T.z_range (sa_cons (se_add se_int (se_call ((ok_law_roll T TT).fd hr) tk rfl T.g_law_roll (sa_cons (sv 1) (sa_cons se_int sa_nil)) rfl (aCons_len (aCons_len aNil_len)))) sa_nil)) (blkOk_by (by kernel_rfl)) (fun _ _ _ _ _ => (sg_name (i := 4) sc_law.nd rfl (by first | exact Or.inl rfl | exact Or.inr rfl))) (fun _ _ _ _ _ => sp_nil) (fun _ _ _ _ _ => (se_tup (sa_cons (se_call ((ok_law_roll T TT).fd hr) takesF rfl T.g_law_roll (sa_cons (sv 1) (sa_cons (sv 2) sa_nil)) rfl (aCons_len (aCons_len aNil_len))) (sa_cons se_int sa_nil)))))) sa_nil)) sa_nil)))) (sss_cons (ss_asg (se_tup (sa_cons (se_make ((ok_Winnow__init T TT).kd T.g_Winnow T.mk_Winnow hr) tk rfl (sa_cons (sv 2) sa_nil) (aCons_len aNil_len) rfl) (sa_cons (se_frL (sl_rep (sl_lst (sa_cons se_int sa_nil)) (sv 2))) (sa_cons se_int (sa_cons se_int sa_nil))))) (sg_tup rfl (sgs_cons (sg_name (i := 5) sc_law.nd rfl (by first | exact Or.inl rfl | exact Or.inr rfl)) (sgs_cons (sg_name (i := 6) sc_law.nd rfl (by first | exact Or.inl rfl | exact Or.inr rfl)) (sgs_cons (sg_name (i := 7) sc_law.nd rfl (by first | exact Or.inl rfl | exact Or.inr rfl)) (sgs_cons (sg_name (i := 8) sc_law.nd rfl (by first | exact Or.inl rfl | exact Or.inr rfl)) sgs_nil)))))) (sss_cons (ss_for po rfl (si_rng1 rfl T.z_range (sa_cons (se_call ((ok_law_roll T TT).fd hr) tk rfl T.g_law_roll (sa_cons (sv 1) (sa_cons se_int sa_nil)) rfl (aCons_len (aCons_len aNil_len))) sa_nil)) (sg_name (i := 9) sc_law.nd rfl (by first | exact Or.inl rfl | exact Or.inr rfl)) (sss_cons (ss_set (i := 10) sc_law.nd rfl (by first | exact Or.inl rfl | exact Or.inr rfl) (se_toTup (hm := T.z_tuple) (ha := (sa_cons (se_frL (sl_lc (own := [("k", 4)]) rfl sc_law.nd (si_rng1 rfl T.z_range (sa_cons (sv 2) sa_nil)) (blkOk_by (by kernel_rfl)) (fun _ _ _ _ _ => (sg_name (i := 4) sc_law.nd rfl (by first | exact Or.inl rfl | exact Or.inr rfl))) (fun _ _ _ _ _ => sp_nil) (fun _ _ _ _ _ => (se_call ((ok_law_roll T TT).fd hr) takesF rfl T.g_law_roll (sa_cons (sv 1) (sa_cons se_int sa_nil)) rfl (aCons_len (aCons_len aNil_len)))))) sa_nil)))) (sss_cons (ss_set (i := 11) sc_law.nd rfl (by first | exact Or.inl rfl | exact Or.inr rfl) (se_ne hr (se_frL (sl_lc (own := [("k", 4)]) rfl sc_law.nd (si_list (sv 3)) (blkOk_by (by kernel_rfl)) (fun _ _ _ _ _ => (sg_name (i := 4) sc_law.nd rfl (by first | exact Or.inl rfl | exact Or.inr rfl))) (fun _ _ _ _ _ => (sp_one (st_eq hr (se_ix (sv 10) (sv 4)) se_int))) (fun _ _ _ _ _ => (sv 4)))) (se_frL (sl_lst sa_nil)))) (sss_cons (ss_set (i := 12) sc_law.nd rfl (by first | exact Or.inl rfl | exact Or.inr rfl) (se_sum (hm := T.z_sum) (ha := (sa_cons (se_frL (sl_lc (own := [("k", 4)]) rfl sc_law.nd (si_rng1 rfl T.z_range (sa_cons (sv 2) sa_nil)) (blkOk_by (by kernel_rfl)) (fun _ _ _ _ _ => (sg_name (i := 4) sc_law.nd rfl (by first | exact Or.inl rfl | exact Or.inr rfl))) (fun _ _ _ _ _ => (sp_one (st_eq hr (se_ix (sv 10) (sv 4)) se_int))) (fun _ _ _ _ _ => (se_ix (sv 6) (sv 4))))) sa_nil)))) (sss_cons (ss_set (i := 13) sc_law.nd rfl (by first | exact Or.inl rfl | exact Or.inr rfl) (se_and (se_ge (se_mul se_int (sv 12)) (sv 2)) (se_one (se_gt (sv 12) se_int)))) (sss_cons (ss_if (SW.st (sw_or (st_ne hr (se_call ((ok_is_any T TT).fd hr) tk rfl T.g_is_any (sa_cons (sv 10) (sa_cons (sv 3) sa_nil)) rfl (aCons_len (aCons_len aNil_len))) (sv 11)) (sw_or (st_ne hr (se_meth (md_more ((ok_Winnow__guess T TT).md T.g_Winnow T.cl_Winnow T.mt_Winnow__guess hr) md_nil) tk (sv 5) (sa_cons (sv 10) sa_nil) (aCons_len aNil_len) rfl) (sv 13)) (sw_or1 (st_ne hr (se_meth (md_more ((ok_Winnow__see T TT).md T.g_Winnow T.cl_Winnow T.mt_Winnow__see hr) md_nil) tk (sv 5) (sa_cons (sv 10) (sa_cons (sv 11) sa_nil)) (aCons_len (aCons_len aNil_len)) rfl) (sv 13)))))) (sss_one (ss_ret se_bl)) sss_nil) (sss_cons (ss_if (SW.st (sw_and (st_val (sv 11)) (sw_and1 (st_not (st_val (sv 13)))))) (sss_one (ss_asg (se_tup (sa_cons (se_add (sv 7) se_int) (sa_cons (se_frL (sl_lc (own := [("k", 4)]) rfl sc_law.nd (si_rng1 rfl T.z_range (sa_cons (sv 2) sa_nil)) (blkOk_by (by kernel_rfl)) (fun _ _ _ _ _ => (sg_name (i := 4) sc_law.nd rfl (by first | exact Or.inl rfl | exact Or.inr rfl))) (fun _ _ _ _ _ => sp_nil) (fun _ _ _ _ _ => (se_if (st_eq hr (se_ix (sv 10) (sv 4)) se_int) (se_mul se_int (se_ix (sv 6) (sv 4))) (se_ix (sv 6) (sv 4)))))) sa_nil))) (sg_tup rfl (sgs_cons (sg_name (i := 7) sc_law.nd rfl (by first | exact Or.inl rfl | exact Or.inr rfl)) (sgs_cons (sg_name (i := 6) sc_law.nd rfl (by first | exact Or.inl rfl | exact Or.inr rfl)) sgs_nil))))) sss_nil) (sss_cons (ss_if (SW.st (sw_and (st_val (sv 13)) (sw_and1 (st_not (st_val (sv 11)))))) (sss_one (ss_asg (se_tup (sa_cons (se_add (sv 8) se_int) (sa_cons (se_frL (sl_lc (own := [("k", 4)]) rfl sc_law.nd (si_rng1 rfl T.z_range (sa_cons (sv 2) sa_nil)) (blkOk_by (by kernel_rfl)) (fun _ _ _ _ _ => (sg_name (i := 4) sc_law.nd rfl (by first | exact Or.inl rfl | exact Or.inr rfl))) (fun _ _ _ _ _ => sp_nil) (fun _ _ _ _ _ => (se_if (st_eq hr (se_ix (sv 10) (sv 4)) se_int) se_int (se_ix (sv 6) (sv 4)))))) sa_nil))) (sg_tup rfl (sgs_cons (sg_name (i := 8) sc_law.nd rfl (by first | exact Or.inl rfl | exact Or.inr rfl)) (sgs_cons (sg_name (i := 6) sc_law.nd rfl (by first | exact Or.inl rfl | exact Or.inr rfl)) sgs_nil))))) sss_nil) (sss_cons (ss_if (SW.st (sw_or (st_ne hr (se_fld (cls_one T.g_Winnow T.cl_Winnow T.na_Winnow_weights) (sv 5)) (sv 6)) (sw_or1 (st_ne hr (se_tup (sa_cons (se_fld (cls_one T.g_Winnow T.cl_Winnow T.na_Winnow_lacks) (sv 5)) (sa_cons (se_fld (cls_one T.g_Winnow T.cl_Winnow T.na_Winnow_spares) (sv 5)) sa_nil))) (se_tup (sa_cons (sv 7) (sa_cons (sv 8) sa_nil))))))) (sss_one (ss_ret se_bl)) sss_nil) (sss_one (ss_if (SW.st (sw_or (st_ne hr (se_frL (sl_lc (own := [("k", 4)]) rfl sc_law.nd (si_list (sv 3)) (blkOk_by (by kernel_rfl)) (fun _ _ _ _ _ => (sg_name (i := 4) sc_law.nd rfl (by first | exact Or.inl rfl | exact Or.inr rfl))) (fun _ _ _ _ _ => (sp_one (SW.st (sw_or (st_lt (se_ix (sv 6) (sv 4)) se_int) (sw_or1 (st_gt (se_ix (sv 6) (sv 4)) (sv 2))))))) (fun _ _ _ _ _ => (sv 4)))) (se_frL (sl_lst sa_nil))) (sw_or (st_ne hr (se_call ((ok_alive T TT).fd hr) tk rfl T.g_alive (sa_cons (sv 5) sa_nil) rfl (aCons_len aNil_len)) (se_toTup (hm := T.z_tuple) (ha := (sa_cons (se_frL (sl_lc (own := [("k", 4)]) rfl sc_law.nd (si_rng1 rfl T.z_range (sa_cons (sv 2) sa_nil)) (blkOk_by (by kernel_rfl)) (fun _ _ _ _ _ => (sg_name (i := 4) sc_law.nd rfl (by first | exact Or.inl rfl | exact Or.inr rfl))) (fun _ _ _ _ _ => (sp_one (st_gt (se_ix (sv 6) (sv 4)) se_int))) (fun _ _ _ _ _ => (sv 4)))) sa_nil)))) (sw_or1 (st_ne hr (se_call ((ok_weight_of T TT).fd hr) tk rfl T.g_weight_of (sa_cons (sv 5) sa_nil) rfl (aCons_len aNil_len)) (se_sum (hm := T.z_sum) (ha := (sa_cons (sv 6) sa_nil)))))))) (sss_one (ss_ret se_bl)) sss_nil))))))))))) (sss_cons (ss_if (SW.st (sw_or (st_gt (se_add (sv 7) (sv 8)) (se_call ((ok_most_winnow T TT).fd hr) tk rfl T.g_most_winnow (sa_cons (sv 2) (sa_cons (se_len (hm := T.z_len) (ha := (sa_cons (sv 3) sa_nil))) sa_nil)) rfl (aCons_len (aCons_len aNil_len)))) (sw_or1 (st_gt (sv 8) (se_add (sv 7) se_int))))) (sss_one (ss_ret se_bl)) sss_nil) (sss_cons (ss_set (i := 14) sc_law.nd rfl (by first | exact Or.inl rfl | exact Or.inr rfl) se_int) (sss_cons (ss_while po (st_lt (se_ix (se_frL (sl_lst (sa_cons se_int (sa_cons se_int (sa_cons se_int (sa_cons se_int sa_nil)))))) (sv 14)) (sv 2)) (sss_one (ss_set (i := 14) sc_law.nd rfl (by first | exact Or.inl rfl | exact Or.inr rfl) (se_add (sv 14) se_int)))) (sss_cons (ss_if (SW.st (sw_or (st_ne hr (se_call ((ok_logarithm T TT).fd hr) tk rfl T.g_logarithm (sa_cons (sv 2) sa_nil) rfl (aCons_len aNil_len)) (sv 14)) (sw_or1 (st_ne hr (se_call ((ok_most_winnow T TT).fd hr) tk rfl T.g_most_winnow (sa_cons (sv 2) (sa_cons (se_len (hm := T.z_len) (ha := (sa_cons (sv 3) sa_nil))) sa_nil)) rfl (aCons_len (aCons_len aNil_len))) (se_add (se_mul (se_mul se_int (se_len (hm := T.z_len) (ha := (sa_cons (sv 3) sa_nil)))) (se_add (sv 14) se_int)) se_int))))) (sss_one (ss_ret se_bl)) sss_nil) (sss_cons (ss_set (i := 15) sc_law.nd rfl (by first | exact Or.inl rfl | exact Or.inr rfl) (se_make ((ok_Winnow__init T TT).kd T.g_Winnow T.mk_Winnow hr) tk rfl (sa_cons (sv 2) sa_nil) (aCons_len aNil_len) rfl)) (sss_one (ss_if (SW.st (sw_or (st_ne hr (se_told (hs := told_hs) (k := 2) rfl rfl T.g_law_told T.F_law_told.kp lkT hcT bT sc_law_told rfl (Or.inl rfl) told_ht (by decide) T.told_gl T.told_ex TT.b_1 (hcode.symm.trans T.code_law) (hr.mono (by decide)) (lamS_by (by kernel_rfl)) rfl (fun _ _ _ _ _ => rfl) (fun A outer s H E f c hr tk => (se_meth (md_more ((ok_Winnow__see T TT).md T.g_Winnow T.cl_Winnow T.mt_Winnow__see hr) md_nil) tk (sv 15) (sa_cons (se_repT (se_tup (sa_cons se_int sa_nil)) (sv 2)) (sa_cons se_bl sa_nil)) (aCons_len (aCons_len aNil_len)) rfl))) se_str) (sw_or1 (st_ne hr (se_fld (cls_one T.g_Winnow T.cl_Winnow T.na_Winnow_lacks) (sv 15)) se_int)))) (sss_one (ss_ret se_bl)) sss_nil)))))))))))) (sss_one (ss_ret se_bl))))
end
def A0 : Sto := [.tabG 0, .tabL 1 "law.<locals>.<lambda>"]
def Math : Prop := ∀ ns : List Int, ns.length ≤ 63 → (∀ z ∈ ns, Builtin.Int.intBits z ≤ 1048576) → ∃ A', m_law [.lst (ns.map .int)] A0 = .ok (.bl true) A'
theorem all_mk {l : PySem.W.OpenLaw} {w : World} {K : PySem.W.Frag} {h : Heap} {mg : Str → Option Value} {fa : Addr} (X : K.In h) (G : h.Ns mainGlobals mg) (hfa : mg "law" = some (.ref fa))
    {f_law_dice : Addr} {od_law_dice an_law_dice : Option Addr} {sl_law_dice : Array (Option Value)} {oc_law_dice kV_law_dice dc_law_dice pm_law_dice ct_law_dice : Value}
    {cd_law_dice : Value}
    {f_law_rounds : Addr} {od_law_rounds an_law_rounds : Option Addr} {sl_law_rounds : Array (Option Value)} {oc_law_rounds kV_law_rounds dc_law_rounds pm_law_rounds ct_law_rounds : Value}
    {cd_law_rounds : Value}
    {f_Winnow__init : Addr} {od_Winnow__init an_Winnow__init : Option Addr} {sl_Winnow__init : Array (Option Value)} {oc_Winnow__init kV_Winnow__init dc_Winnow__init pm_Winnow__init ct_Winnow__init : Value}
    {cd_Winnow__init : Value}
    {f_law_roll : Addr} {od_law_roll an_law_roll : Option Addr} {sl_law_roll : Array (Option Value)} {oc_law_roll kV_law_roll dc_law_roll pm_law_roll ct_law_roll : Value}
    {cd_law_roll : Value}
    {f_logarithm : Addr} {od_logarithm an_logarithm : Option Addr} {sl_logarithm : Array (Option Value)} {oc_logarithm kV_logarithm dc_logarithm pm_logarithm ct_logarithm : Value}
    {cd_logarithm : Value}
    {f_most_winnow : Addr} {od_most_winnow an_most_winnow : Option Addr} {sl_most_winnow : Array (Option Value)} {oc_most_winnow kV_most_winnow dc_most_winnow pm_most_winnow ct_most_winnow : Value}
    {cd_most_winnow : Value}
    {f_is_any : Addr} {od_is_any an_is_any : Option Addr} {sl_is_any : Array (Option Value)} {oc_is_any kV_is_any dc_is_any pm_is_any ct_is_any : Value}
    {c_is_any P_is_any : Addr} {e_is_any : Value} {dd_is_any : Option Addr} {vs_is_any : Array Value} {sx_is_any : Array (Option Value)}
    {f_Winnow__guess : Addr} {od_Winnow__guess an_Winnow__guess : Option Addr} {sl_Winnow__guess : Array (Option Value)} {oc_Winnow__guess kV_Winnow__guess dc_Winnow__guess pm_Winnow__guess ct_Winnow__guess : Value}
    {cd_Winnow__guess : Value}
    {f_Winnow__see : Addr} {od_Winnow__see an_Winnow__see : Option Addr} {sl_Winnow__see : Array (Option Value)} {oc_Winnow__see kV_Winnow__see dc_Winnow__see pm_Winnow__see ct_Winnow__see : Value}
    {cd_Winnow__see : Value}
    {f_alive : Addr} {od_alive an_alive : Option Addr} {sl_alive : Array (Option Value)} {oc_alive kV_alive dc_alive pm_alive ct_alive : Value}
    {cd_alive : Value}
    {f_weight_of : Addr} {od_weight_of an_weight_of : Option Addr} {sl_weight_of : Array (Option Value)} {oc_weight_of kV_weight_of dc_weight_of pm_weight_of ct_weight_of : Value}
    {cd_weight_of : Value}
    {f_law : Addr} {od_law an_law : Option Addr} {sl_law : Array (Option Value)} {oc_law kV_law dc_law pm_law ct_law : Value}
    {c_law P_law : Addr} {e_law : Value} {dd_law : Option Addr} {vs_law : Array Value} {sx_law : Array (Option Value)}
    {f_law_told : Addr} {od_law_told an_law_told : Option Addr} {sl_law_told : Array (Option Value)} {oc_law_told kV_law_told dc_law_told pm_law_told ct_law_told : Value}
    {cd_law_told : Value}
    {C_Winnow : Addr}
    {X_BadExample : Addr}
    {X_BadWord : Addr}
    {X_BadMachine : Addr}
    {X_BadFormula : Addr}
    {X_BadPaper : Addr}
    {X_BadSize : Addr}
    {X_BadText : Addr}
    {X_BadStore : Addr}
    {X_NoSuch : Addr}
    {bm_BadExample : List Value} {B_BadExample n_BadExample i_BadExample : String}
    (aC_Winnow : PySem.W.nsIn K mainGlobals "Winnow" = some (some (.ref C_Winnow)))
    (pg_Winnow : PySem.W.plainGet K C_Winnow Str.empty = true)
    (hd_Winnow : PySem.W.hasDictIn K C_Winnow = true)
    (po_Winnow : PySem.W.plainOver K C_Winnow = true)
    (sa_Winnow : PySem.W.findIn K (.ref C_Winnow) "__setattr__" = some (some (.builtin "object.__setattr__")))
    (mk_Winnow : PySem.W.makesIn K C_Winnow = true)
    (kc_Winnow : PySem.W.keepIn K (.ref C_Winnow) = true)
    (na_Winnow_many : PySem.W.findIn K (.ref C_Winnow) "many" = some none)
    (na_Winnow_weights : PySem.W.findIn K (.ref C_Winnow) "weights" = some none)
    (na_Winnow_lacks : PySem.W.findIn K (.ref C_Winnow) "lacks" = some none)
    (na_Winnow_spares : PySem.W.findIn K (.ref C_Winnow) "spares" = some none)
    (aX_BadExample : PySem.W.nsIn K mainGlobals "BadExample" = some (some (.ref X_BadExample)))
    (aX_BadWord : PySem.W.nsIn K mainGlobals "BadWord" = some (some (.ref X_BadWord)))
    (aX_BadMachine : PySem.W.nsIn K mainGlobals "BadMachine" = some (some (.ref X_BadMachine)))
    (aX_BadFormula : PySem.W.nsIn K mainGlobals "BadFormula" = some (some (.ref X_BadFormula)))
    (aX_BadPaper : PySem.W.nsIn K mainGlobals "BadPaper" = some (some (.ref X_BadPaper)))
    (aX_BadSize : PySem.W.nsIn K mainGlobals "BadSize" = some (some (.ref X_BadSize)))
    (aX_BadText : PySem.W.nsIn K mainGlobals "BadText" = some (some (.ref X_BadText)))
    (aX_BadStore : PySem.W.nsIn K mainGlobals "BadStore" = some (some (.ref X_BadStore)))
    (aX_NoSuch : PySem.W.nsIn K mainGlobals "NoSuch" = some (some (.ref X_NoSuch)))
    (eb_BadExample : ExcBaseFacts B_BadExample n_BadExample i_BadExample bm_BadExample)
    (ei_BadExample : PySem.W.excIn K X_BadExample bm_BadExample n_BadExample = true)
    (kx_BadExample : PySem.W.keepIn K (.ref X_BadExample) = true)
    (sx_BadExample : PySem.W.subIn K (.ref X_BadExample) (.type "BaseException") = some true)
    (tx_BadExample : PySem.W.typeIn K (.ref X_BadExample) = some (.type "type"))
    (xm_BadExample_BadWord : PySem.W.exmOne K (.ref X_BadExample) (.ref X_BadWord) = some false)
    (xm_BadExample_BadMachine : PySem.W.exmOne K (.ref X_BadExample) (.ref X_BadMachine) = some false)
    (xm_BadExample_BadFormula : PySem.W.exmOne K (.ref X_BadExample) (.ref X_BadFormula) = some false)
    (xm_BadExample_BadExample : PySem.W.exmOne K (.ref X_BadExample) (.ref X_BadExample) = some true)
    (xm_BadExample_BadPaper : PySem.W.exmOne K (.ref X_BadExample) (.ref X_BadPaper) = some false)
    (xm_BadExample_BadSize : PySem.W.exmOne K (.ref X_BadExample) (.ref X_BadSize) = some false)
    (xm_BadExample_BadText : PySem.W.exmOne K (.ref X_BadExample) (.ref X_BadText) = some false)
    (xm_BadExample_BadStore : PySem.W.exmOne K (.ref X_BadExample) (.ref X_BadStore) = some false)
    (xm_BadExample_NoSuch : PySem.W.exmOne K (.ref X_BadExample) (.ref X_NoSuch) = some false)
    (a_law_dice : PySem.W.nsIn K mainGlobals "_law_dice" = some (some (.ref f_law_dice)))
    (l_law_dice : K.lookup f_law_dice = some ⟨oc_law_dice, od_law_dice, .func (PySem.W.fnOf "_law_dice" "_law_dice" (defArgs s_law_dice) (defBody s_law_dice) (defScope s_law_dice) .none kV_law_dice dc_law_dice pm_law_dice an_law_dice cd_law_dice ct_law_dice), sl_law_dice⟩)
    (c_law_dice_ : PySem.W.codeIn K cd_law_dice "_law_dice" = true)
    (k_law_dice : PySem.W.keepIn K (.ref f_law_dice) = true)
    (a_law_rounds : PySem.W.nsIn K mainGlobals "_law_rounds" = some (some (.ref f_law_rounds)))
    (l_law_rounds : K.lookup f_law_rounds = some ⟨oc_law_rounds, od_law_rounds, .func (PySem.W.fnOf "_law_rounds" "_law_rounds" (defArgs s_law_rounds) (defBody s_law_rounds) (defScope s_law_rounds) .none kV_law_rounds dc_law_rounds pm_law_rounds an_law_rounds cd_law_rounds ct_law_rounds), sl_law_rounds⟩)
    (c_law_rounds_ : PySem.W.codeIn K cd_law_rounds "_law_rounds" = true)
    (k_law_rounds : PySem.W.keepIn K (.ref f_law_rounds) = true)
    (a_Winnow__init : PySem.W.findIn K (.ref C_Winnow) "__init__" = some (some (.ref f_Winnow__init)))
    (i_Winnow__init : PySem.W.isFn K (.ref f_Winnow__init) = true)
    (l_Winnow__init : K.lookup f_Winnow__init = some ⟨oc_Winnow__init, od_Winnow__init, .func (PySem.W.fnOf "__init__" "Winnow.__init__" (defArgs s_Winnow__init) (defBody s_Winnow__init) (defScope s_Winnow__init) .none kV_Winnow__init dc_Winnow__init pm_Winnow__init an_Winnow__init cd_Winnow__init ct_Winnow__init), sl_Winnow__init⟩)
    (c_Winnow__init_ : PySem.W.codeIn K cd_Winnow__init "Winnow.__init__" = true)
    (k_Winnow__init : PySem.W.keepIn K (.ref f_Winnow__init) = true)
    (a_law_roll : PySem.W.nsIn K mainGlobals "_law_roll" = some (some (.ref f_law_roll)))
    (l_law_roll : K.lookup f_law_roll = some ⟨oc_law_roll, od_law_roll, .func (PySem.W.fnOf "_law_roll" "_law_roll" (defArgs s_law_roll) (defBody s_law_roll) (defScope s_law_roll) .none kV_law_roll dc_law_roll pm_law_roll an_law_roll cd_law_roll ct_law_roll), sl_law_roll⟩)
    (c_law_roll_ : PySem.W.codeIn K cd_law_roll "_law_roll" = true)
    (k_law_roll : PySem.W.keepIn K (.ref f_law_roll) = true)
    (a_logarithm : PySem.W.nsIn K mainGlobals "logarithm" = some (some (.ref f_logarithm)))
    (l_logarithm : K.lookup f_logarithm = some ⟨oc_logarithm, od_logarithm, .func (PySem.W.fnOf "logarithm" "logarithm" (defArgs s_logarithm) (defBody s_logarithm) (defScope s_logarithm) .none kV_logarithm dc_logarithm pm_logarithm an_logarithm cd_logarithm ct_logarithm), sl_logarithm⟩)
    (c_logarithm_ : PySem.W.codeIn K cd_logarithm "logarithm" = true)
    (k_logarithm : PySem.W.keepIn K (.ref f_logarithm) = true)
    (a_most_winnow : PySem.W.nsIn K mainGlobals "most_winnow" = some (some (.ref f_most_winnow)))
    (l_most_winnow : K.lookup f_most_winnow = some ⟨oc_most_winnow, od_most_winnow, .func (PySem.W.fnOf "most_winnow" "most_winnow" (defArgs s_most_winnow) (defBody s_most_winnow) (defScope s_most_winnow) .none kV_most_winnow dc_most_winnow pm_most_winnow an_most_winnow cd_most_winnow ct_most_winnow), sl_most_winnow⟩)
    (c_most_winnow_ : PySem.W.codeIn K cd_most_winnow "most_winnow" = true)
    (k_most_winnow : PySem.W.keepIn K (.ref f_most_winnow) = true)
    (a_is_any : PySem.W.nsIn K mainGlobals "is_any" = some (some (.ref f_is_any)))
    (l_is_any : K.lookup f_is_any = some ⟨oc_is_any, od_is_any, .func (PySem.W.fnOf "is_any" "is_any" (defArgs s_is_any) (defBody s_is_any) (defScope s_is_any) .none kV_is_any dc_is_any pm_is_any an_is_any (.ref c_is_any) ct_is_any), sl_is_any⟩)
    (c_is_any_ : PySem.W.codeIn K (.ref c_is_any) "is_any" = true)
    (k_is_any : PySem.W.keepIn K (.ref f_is_any) = true)
    (lc_is_any : K.lookup c_is_any = some ⟨e_is_any, dd_is_any, .fields vs_is_any, sx_is_any⟩)
    (v_is_any : vs_is_any[11]? = some (.ref P_is_any))
    (hc_is_any : PySem.W.codeHdIn K c_is_any P_is_any = true)
    (n_is_any : K.lookup P_is_any = none)
    (a_Winnow__guess : PySem.W.findIn K (.ref C_Winnow) "guess" = some (some (.ref f_Winnow__guess)))
    (i_Winnow__guess : PySem.W.isFn K (.ref f_Winnow__guess) = true)
    (l_Winnow__guess : K.lookup f_Winnow__guess = some ⟨oc_Winnow__guess, od_Winnow__guess, .func (PySem.W.fnOf "guess" "Winnow.guess" (defArgs s_Winnow__guess) (defBody s_Winnow__guess) (defScope s_Winnow__guess) .none kV_Winnow__guess dc_Winnow__guess pm_Winnow__guess an_Winnow__guess cd_Winnow__guess ct_Winnow__guess), sl_Winnow__guess⟩)
    (c_Winnow__guess_ : PySem.W.codeIn K cd_Winnow__guess "Winnow.guess" = true)
    (k_Winnow__guess : PySem.W.keepIn K (.ref f_Winnow__guess) = true)
    (a_Winnow__see : PySem.W.findIn K (.ref C_Winnow) "see" = some (some (.ref f_Winnow__see)))
    (i_Winnow__see : PySem.W.isFn K (.ref f_Winnow__see) = true)
    (l_Winnow__see : K.lookup f_Winnow__see = some ⟨oc_Winnow__see, od_Winnow__see, .func (PySem.W.fnOf "see" "Winnow.see" (defArgs s_Winnow__see) (defBody s_Winnow__see) (defScope s_Winnow__see) .none kV_Winnow__see dc_Winnow__see pm_Winnow__see an_Winnow__see cd_Winnow__see ct_Winnow__see), sl_Winnow__see⟩)
    (c_Winnow__see_ : PySem.W.codeIn K cd_Winnow__see "Winnow.see" = true)
    (k_Winnow__see : PySem.W.keepIn K (.ref f_Winnow__see) = true)
    (a_alive : PySem.W.nsIn K mainGlobals "alive" = some (some (.ref f_alive)))
    (l_alive : K.lookup f_alive = some ⟨oc_alive, od_alive, .func (PySem.W.fnOf "alive" "alive" (defArgs s_alive) (defBody s_alive) (defScope s_alive) .none kV_alive dc_alive pm_alive an_alive cd_alive ct_alive), sl_alive⟩)
    (c_alive_ : PySem.W.codeIn K cd_alive "alive" = true)
    (k_alive : PySem.W.keepIn K (.ref f_alive) = true)
    (a_weight_of : PySem.W.nsIn K mainGlobals "weight_of" = some (some (.ref f_weight_of)))
    (l_weight_of : K.lookup f_weight_of = some ⟨oc_weight_of, od_weight_of, .func (PySem.W.fnOf "weight_of" "weight_of" (defArgs s_weight_of) (defBody s_weight_of) (defScope s_weight_of) .none kV_weight_of dc_weight_of pm_weight_of an_weight_of cd_weight_of ct_weight_of), sl_weight_of⟩)
    (c_weight_of_ : PySem.W.codeIn K cd_weight_of "weight_of" = true)
    (k_weight_of : PySem.W.keepIn K (.ref f_weight_of) = true)
    (a_law : PySem.W.nsIn K mainGlobals "law" = some (some (.ref f_law)))
    (l_law : K.lookup f_law = some ⟨oc_law, od_law, .func (PySem.W.fnOf "law" "law" (defArgs s_law) (defBody s_law) (defScope s_law) .none kV_law dc_law pm_law an_law (.ref c_law) ct_law), sl_law⟩)
    (c_law_ : PySem.W.codeIn K (.ref c_law) "law" = true)
    (k_law : PySem.W.keepIn K (.ref f_law) = true)
    (lc_law : K.lookup c_law = some ⟨e_law, dd_law, .fields vs_law, sx_law⟩)
    (v_law : vs_law[11]? = some (.ref P_law))
    (hc_law : PySem.W.codeHdIn K c_law P_law = true)
    (n_law : K.lookup P_law = none)
    (a_law_told : PySem.W.nsIn K mainGlobals "_law_told" = some (some (.ref f_law_told)))
    (l_law_told : K.lookup f_law_told = some ⟨oc_law_told, od_law_told, .func (PySem.W.fnOf "_law_told" "_law_told" (defArgs s_law_told) (defBody s_law_told) (defScope s_law_told) .none kV_law_told dc_law_told pm_law_told an_law_told cd_law_told ct_law_told), sl_law_told⟩)
    (c_law_told_ : PySem.W.codeIn K cd_law_told "_law_told" = true)
    (k_law_told : PySem.W.keepIn K (.ref f_law_told) = true)
    (z_abs : PySem.W.nsIn K mainGlobals "abs" = some none)
    (z_all : PySem.W.nsIn K mainGlobals "all" = some none)
    (z_any : PySem.W.nsIn K mainGlobals "any" = some none)
    (z_dict : PySem.W.nsIn K mainGlobals "dict" = some none)
    (z_enumerate : PySem.W.nsIn K mainGlobals "enumerate" = some none)
    (z_int : PySem.W.nsIn K mainGlobals "int" = some none)
    (z_len : PySem.W.nsIn K mainGlobals "len" = some none)
    (z_range : PySem.W.nsIn K mainGlobals "range" = some none)
    (z_sorted : PySem.W.nsIn K mainGlobals "sorted" = some none)
    (z_sum : PySem.W.nsIn K mainGlobals "sum" = some none)
    (z_tuple : PySem.W.nsIn K mainGlobals "tuple" = some none)
    (z_zip : PySem.W.nsIn K mainGlobals "zip" = some none)
    (nd : ([P_is_any, P_law] : List Addr).Nodup)
    (own_is_any : mg "is_any" = some (.ref f_is_any) → OwnTab K f_is_any h)
    (own_law : mg "law" = some (.ref f_law) → OwnTab K f_law h)
    (math : Math) : LawAtS l w K (L2.CX l.prog w) 5 63 "script" mg fa h := by
  have e : f_law = fa := by
    have z := hfa.symm.trans (PySem.W.mg_of X G a_law)
    cases z
    rfl
  subst e
  have F_law_dice := fun_mk (st := s_law_dice) l_law_dice c_law_dice_ k_law_dice
  have F_law_rounds := fun_mk (st := s_law_rounds) l_law_rounds c_law_rounds_ k_law_rounds
  have F_Winnow__init := fun_mk (st := s_Winnow__init) l_Winnow__init c_Winnow__init_ k_Winnow__init
  have F_law_roll := fun_mk (st := s_law_roll) l_law_roll c_law_roll_ k_law_roll
  have F_logarithm := fun_mk (st := s_logarithm) l_logarithm c_logarithm_ k_logarithm
  have F_most_winnow := fun_mk (st := s_most_winnow) l_most_winnow c_most_winnow_ k_most_winnow
  have F_is_any := fun_mk (st := s_is_any) l_is_any c_is_any_ k_is_any
  have F_Winnow__guess := fun_mk (st := s_Winnow__guess) l_Winnow__guess c_Winnow__guess_ k_Winnow__guess
  have F_Winnow__see := fun_mk (st := s_Winnow__see) l_Winnow__see c_Winnow__see_ k_Winnow__see
  have F_alive := fun_mk (st := s_alive) l_alive c_alive_ k_alive
  have F_weight_of := fun_mk (st := s_weight_of) l_weight_of c_weight_of_ k_weight_of
  have F_law := fun_mk (st := s_law) l_law c_law_ k_law
  have F_law_told := fun_mk (st := s_law_told) l_law_told c_law_told_ k_law_told
  let T : Txt K mg := {
    a_law_dice := f_law_dice, fd_law_dice := _, F_law_dice := F_law_dice, b_law_dice := F_law_dice.binds (ps := ["cell"]) fun _ _ _ _ _ _ us hl => match us, hl with | [_], _ => rfl
    g_law_dice := PySem.W.mg_of X G a_law_dice
    a_law_rounds := f_law_rounds, fd_law_rounds := _, F_law_rounds := F_law_rounds, b_law_rounds := F_law_rounds.binds (ps := ["script", "most"]) fun _ _ _ _ _ _ us hl => match us, hl with | [_, _], _ => rfl
    g_law_rounds := PySem.W.mg_of X G a_law_rounds
    a_Winnow__init := f_Winnow__init, fd_Winnow__init := _, F_Winnow__init := F_Winnow__init, b_Winnow__init := F_Winnow__init.binds (ps := ["self", "many"]) fun _ _ _ _ _ _ us hl => match us, hl with | [_, _], _ => rfl
    a_law_roll := f_law_roll, fd_law_roll := _, F_law_roll := F_law_roll, b_law_roll := F_law_roll.binds (ps := ["dice", "many"]) fun _ _ _ _ _ _ us hl => match us, hl with | [_, _], _ => rfl
    g_law_roll := PySem.W.mg_of X G a_law_roll
    a_logarithm := f_logarithm, fd_logarithm := _, F_logarithm := F_logarithm, b_logarithm := F_logarithm.binds (ps := ["many"]) fun _ _ _ _ _ _ us hl => match us, hl with | [_], _ => rfl
    g_logarithm := PySem.W.mg_of X G a_logarithm
    a_most_winnow := f_most_winnow, fd_most_winnow := _, F_most_winnow := F_most_winnow, b_most_winnow := F_most_winnow.binds (ps := ["many", "few"]) fun _ _ _ _ _ _ us hl => match us, hl with | [_, _], _ => rfl
    g_most_winnow := PySem.W.mg_of X G a_most_winnow
    a_is_any := f_is_any, fd_is_any := _, F_is_any := F_is_any, b_is_any := F_is_any.binds (ps := ["point", "places"]) fun _ _ _ _ _ _ us hl => match us, hl with | [_, _], _ => rfl
    g_is_any := PySem.W.mg_of X G a_is_any
    a_Winnow__guess := f_Winnow__guess, fd_Winnow__guess := _, F_Winnow__guess := F_Winnow__guess, b_Winnow__guess := F_Winnow__guess.binds (ps := ["self", "point"]) fun _ _ _ _ _ _ us hl => match us, hl with | [_, _], _ => rfl
    a_Winnow__see := f_Winnow__see, fd_Winnow__see := _, F_Winnow__see := F_Winnow__see, b_Winnow__see := F_Winnow__see.binds (ps := ["self", "point", "take"]) fun _ _ _ _ _ _ us hl => match us, hl with | [_, _, _], _ => rfl
    a_alive := f_alive, fd_alive := _, F_alive := F_alive, b_alive := F_alive.binds (ps := ["learner"]) fun _ _ _ _ _ _ us hl => match us, hl with | [_], _ => rfl
    g_alive := PySem.W.mg_of X G a_alive
    a_weight_of := f_weight_of, fd_weight_of := _, F_weight_of := F_weight_of, b_weight_of := F_weight_of.binds (ps := ["learner"]) fun _ _ _ _ _ _ us hl => match us, hl with | [_], _ => rfl
    g_weight_of := PySem.W.mg_of X G a_weight_of
    a_law := f_law, fd_law := _, F_law := F_law, b_law := F_law.binds (ps := ["script"]) fun _ _ _ _ _ _ us hl => match us, hl with | [_], _ => rfl
    g_law := PySem.W.mg_of X G a_law
    a_law_told := f_law_told, fd_law_told := _, F_law_told := F_law_told, b_law_told := F_law_told.binds (ps := ["what"]) fun _ _ _ _ _ _ us hl => match us, hl with | [_], _ => rfl
    g_law_told := PySem.W.mg_of X G a_law_told
    C_Winnow := C_Winnow, g_Winnow := PySem.W.mg_of X G aC_Winnow, cl_Winnow := ⟨pg_Winnow, hd_Winnow, po_Winnow, sa_Winnow⟩, mk_Winnow := ⟨mk_Winnow, a_Winnow__init, i_Winnow__init, kc_Winnow⟩
    na_Winnow_many := na_Winnow_many
    na_Winnow_weights := na_Winnow_weights
    na_Winnow_lacks := na_Winnow_lacks
    na_Winnow_spares := na_Winnow_spares
    mt_Winnow__guess := ⟨a_Winnow__guess, i_Winnow__guess, k_Winnow__guess⟩
    mt_Winnow__see := ⟨a_Winnow__see, i_Winnow__see, k_Winnow__see⟩
    ex_BadExample := ⟨X_BadExample, bm_BadExample, B_BadExample, n_BadExample, i_BadExample, eb_BadExample, ei_BadExample, PySem.W.mg_of X G aX_BadExample, kx_BadExample, sx_BadExample, tx_BadExample⟩
    z_abs := PySem.W.mg_none_of X G z_abs
    z_all := PySem.W.mg_none_of X G z_all
    z_any := PySem.W.mg_none_of X G z_any
    z_dict := PySem.W.mg_none_of X G z_dict
    z_enumerate := PySem.W.mg_none_of X G z_enumerate
    z_int := PySem.W.mg_none_of X G z_int
    z_len := PySem.W.mg_none_of X G z_len
    z_range := PySem.W.mg_none_of X G z_range
    z_sorted := PySem.W.mg_none_of X G z_sorted
    z_sum := PySem.W.mg_none_of X G z_sum
    z_tuple := PySem.W.mg_none_of X G z_tuple
    z_zip := PySem.W.mg_none_of X G z_zip
    c_is_any := c_is_any, code_is_any := rfl
    c_law := c_law, code_law := rfl
    told_gl := by
      intro h hm
      simp only [told_hs, List.mem_cons, List.not_mem_nil, or_false] at hm
      rcases hm with rfl | rfl | rfl | rfl | rfl | rfl | rfl | rfl | rfl
      · exact ⟨rfl, by decide, _, PySem.W.mg_of X G aX_BadWord⟩
      · exact ⟨rfl, by decide, _, PySem.W.mg_of X G aX_BadMachine⟩
      · exact ⟨rfl, by decide, _, PySem.W.mg_of X G aX_BadFormula⟩
      · exact ⟨rfl, by decide, _, PySem.W.mg_of X G aX_BadExample⟩
      · exact ⟨rfl, by decide, _, PySem.W.mg_of X G aX_BadPaper⟩
      · exact ⟨rfl, by decide, _, PySem.W.mg_of X G aX_BadSize⟩
      · exact ⟨rfl, by decide, _, PySem.W.mg_of X G aX_BadText⟩
      · exact ⟨rfl, by decide, _, PySem.W.mg_of X G aX_BadStore⟩
      · exact ⟨rfl, by decide, _, PySem.W.mg_of X G aX_NoSuch⟩
    told_ex := by
      intro c hc
      obtain rfl : c = "BadExample" := by simpa using hc
      refine ⟨_, PySem.W.mg_of X G aX_BadExample, fun h hm => ?_⟩
      simp only [told_hs, List.mem_cons, List.not_mem_nil, or_false] at hm
      rcases hm with rfl | rfl | rfl | rfl | rfl | rfl | rfl | rfl | rfl
      · exact ⟨_, PySem.W.mg_of X G aX_BadWord, xm_BadExample_BadWord⟩
      · exact ⟨_, PySem.W.mg_of X G aX_BadMachine, xm_BadExample_BadMachine⟩
      · exact ⟨_, PySem.W.mg_of X G aX_BadFormula, xm_BadExample_BadFormula⟩
      · exact ⟨_, PySem.W.mg_of X G aX_BadExample, xm_BadExample_BadExample⟩
      · exact ⟨_, PySem.W.mg_of X G aX_BadPaper, xm_BadExample_BadPaper⟩
      · exact ⟨_, PySem.W.mg_of X G aX_BadSize, xm_BadExample_BadSize⟩
      · exact ⟨_, PySem.W.mg_of X G aX_BadText, xm_BadExample_BadText⟩
      · exact ⟨_, PySem.W.mg_of X G aX_BadStore, xm_BadExample_BadStore⟩
      · exact ⟨_, PySem.W.mg_of X G aX_NoSuch, xm_BadExample_NoSuch⟩
  }
  let tb : Tb := ⟨fun j => ([P_is_any, P_law] : List Addr).getD j 0, fun _ _ => .lst []⟩
  have hT : ∀ p ∈ ([(c_is_any, P_is_any), (c_law, P_law)] : List (Addr × Addr)), h.get? p.2 = some { cls := .none, data := .fields #[] } := by
    intro p hp
    simp only [List.mem_cons, List.not_mem_nil, or_false] at hp
    rcases hp with rfl | rfl
    · exact own_is_any (PySem.W.mg_of X G a_is_any) _ _ _ _ _ _ _ _ l_is_any rfl rfl lc_is_any v_is_any
    · exact own_law (PySem.W.mg_of X G a_law) _ _ _ _ _ _ _ _ l_law rfl rfl lc_law v_law

  have nT : ∀ p ∈ ([(c_is_any, P_is_any), (c_law, P_law)] : List (Addr × Addr)), K.lookup p.2 = none := by
    intro p hp
    simp only [List.mem_cons, List.not_mem_nil, or_false] at hp
    rcases hp with rfl | rfl
    · exact n_is_any
    · exact n_law

  have hC : ∀ p ∈ ([(c_is_any, P_is_any), (c_law, P_law)] : List (Addr × Addr)), PySem.W.CodeHd h p.1 p.2 := by
    intro p hp
    simp only [List.mem_cons, List.not_mem_nil, or_false] at hp
    rcases hp with rfl | rfl
    · exact PySem.W.codeHd_of_K X hc_is_any
    · exact PySem.W.codeHd_of_K X hc_law

  refine ⟨_, [(c_is_any, P_is_any), (c_law, P_law)], spM K mg tb 1 m_law, hT, nT, hC, fun s u => .of_eq rfl, fun H a ns hl hbits hH hS => law_sp (Ps := [P_is_any, P_law]) (A0 := A0) rfl (fun j o hj => match j, hj with | 0, hj => .inl (Option.some.inj hj).symm | 1, hj => .inr ⟨_, (Option.some.inj hj).symm⟩ | n + 2, hj => by simp [A0] at hj) (fun j P hj => match j, hj with | 0, hj => (Option.some.inj hj).symm | 1, hj => (Option.some.inj hj).symm | n + 2, hj => by simp at hj) nd ?_ ?_ hS (math ns hl hbits), fun base _ _ TB => ok_law T ⟨trivial, TB (c_is_any, P_is_any) (by simp), TB (c_law, P_law) (by simp)⟩⟩
  · intro P hP
    simp only [List.mem_cons, List.not_mem_nil, or_false] at hP
    rcases hP with hP | hP
    · rw [hP]; exact n_is_any
    · rw [hP]; exact n_law

  · intro P hP
    simp only [List.mem_cons, List.not_mem_nil, or_false] at hP
    rcases hP with hP | hP
    · rw [hP]; exact hH (c_is_any, P_is_any) (by simp)
    · rw [hP]; exact hH (c_law, P_law) (by simp)

end Law

set_option Elab.async false
set_option linter.all false
set_option autoImplicit false
set_option maxRecDepth 100000
set_option maxHeartbeats 4000000
namespace Law
open PySem Sm Common
open L2 (ixN atI)
/-! ### the mathematics -/
/-- the row of w's values below n -/
abbrev rI (n : Nat) (w : Nat → Int) : List Int := (List.range n).map w
abbrev rD (n : Nat) (f : Nat → D) : List D := (List.range n).map f
theorem rI_D (n : Nat) (w : Nat → Int) : (rI n w).map D.int = rD n fun i => .int (w i) := by simp [rI, rD]
theorem rI_len (n : Nat) (w : Nat → Int) : (rI n w).length = n := by simp [rI]
def onL (n : Nat) (w b : Nat → Int) : List Int := (List.range n).filterMap fun i => if b i = 1 then some (w i) else none
def S (n : Nat) (w b : Nat → Int) : Int := (onL n w b).sum
/-- a learner -/
def win (n : Nat) (w : Nat → Int) (l s : Int) : AO := .ins "Winnow" [("many", .int n), ("weights", .lst ((rI n w).map .int)), ("lacks", .int l), ("spares", .int s)]
section
variable {A : Sto} {L n : Nat} {w b : Nat → Int} {l s : Int} {ρ : Sm.Env} {m : ME}
theorem f_many (h : A[L]? = some (win n w l s)) (hm : m ρ A = .ok (.ref L) A) : mFldC ["Winnow"] m "many" ρ A = .ok (.int n) A := by
  unfold mFldC bd rd win at *
  simp only [hm, h]
  rfl
theorem f_weights (h : A[L]? = some (win n w l s)) (hm : m ρ A = .ok (.ref L) A) : mFldC ["Winnow"] m "weights" ρ A = .ok (.lst ((rI n w).map .int)) A := by
  unfold mFldC bd rd win at *
  simp only [hm, h]
  rfl
theorem f_lacks (h : A[L]? = some (win n w l s)) (hm : m ρ A = .ok (.ref L) A) : mFldC ["Winnow"] m "lacks" ρ A = .ok (.int l) A := by
  unfold mFldC bd rd win at *
  simp only [hm, h]
  rfl
theorem f_spares (h : A[L]? = some (win n w l s)) (hm : m ρ A = .ok (.ref L) A) : mFldC ["Winnow"] m "spares" ρ A = .ok (.int s) A := by
  unfold mFldC bd rd win at *
  simp only [hm, h]
  rfl
theorem p_weights (h : A[L]? = some (win n w l s)) {v : Nat → Int} : putA ["Winnow"] "weights" A (.ref L) (.lst ((rI n v).map .int)) = some (A.set L (win n v l s)) := by
  unfold putA win at *
  simp only [h]
  rfl
theorem p_lacks (h : A[L]? = some (win n w l s)) {k : Int} : putA ["Winnow"] "lacks" A (.ref L) (.int k) = some (A.set L (win n w k s)) := by
  unfold putA win at *
  simp only [h]
  rfl
theorem p_spares (h : A[L]? = some (win n w l s)) {k : Int} : putA ["Winnow"] "spares" A (.ref L) (.int k) = some (A.set L (win n w l k)) := by
  unfold putA win at *
  simp only [h]
  rfl
theorem i_lacks (h : A[L]? = some (win n w l s)) : intFld ["Winnow"] "lacks" A (.ref L) = some (("Winnow" : Str), l) := by
  unfold intFld win at *
  simp only [h]
  rfl
theorem i_spares (h : A[L]? = some (win n w l s)) : intFld ["Winnow"] "spares" A (.ref L) = some (("Winnow" : Str), s) := by
  unfold intFld win at *
  simp only [h]
  rfl
theorem zipW (h : A[L]? = some (win n w l s)) (h0 : mV 0 ρ A = .ok (.ref L) A) (h1 : mV 1 ρ A = .ok (.tup ((rI n b).map .int)) A) :
    mItN zip2 (aCons (mFldC ["Winnow"] (mV 0) "weights") (aCons (mV 1) aNil)) ρ A = .ok (rD n fun i => .tup [.int (w i), .int (b i)]) A := by
  unfold mItN aCons bd
  simp only [f_weights h h0, h1, bd, aNil, op, zip2, sqB, Option.bind_some, Option.map_some]
  rw [rI_D, rI_D]
  simp only [zipD_map]
theorem mem_rD {n : Nat} {f : Nat → D} {d : D} (h : d ∈ rD n f) : ∃ i, i < n ∧ d = f i := by
  simp only [rD, List.mem_map, List.mem_range] at h
  obtain ⟨i, h1, h2⟩ := h
  exact ⟨i, h1, h2.symm⟩
theorem on_D : (rD n fun i => .tup [.int (w i), .int (b i)]).filterMap (fun d => match d with | .tup [x, .int y] => if y = 1 then some x else none | _ => none) = (onL n w b).map D.int := by
  unfold onL rD
  rw [List.filterMap_map, List.map_filterMap]
  congr 1
  funext i
  show (if b i = 1 then some (D.int (w i)) else none) = _
  by_cases hb : b i = 1
  · simp [hb]
  · simp [hb]
theorem lc_g1 (hn : n ≤ 100) (h : A[L]? = some (win n w l s)) : lc_Winnow__guess_1 [some (.ref L), some (.tup ((rI n b).map .int)), none, none, none] A = .ok ((onL n w b).map D.int) A := by
  rw [← on_D]
  refine mLc_pure (zipW h rfl rfl) (by simp; omega) fun d hd => ?_
  obtain ⟨i, hi, rfl⟩ := mem_rD hd
  refine ⟨_, rfl, ?_⟩
  by_cases hb : b i = 1
  · refine .inr ⟨.int (w i), by simp [hb], ?_, rfl⟩
    simp only [bd, mB, mU, mN, rd, op, mV, mC, asB, mAndT, mOrT, mNotT, mAndV, mOrV, mNotV, mIf, aNil, aCons, mTup, mLs, frL, nwL, bS, sNil, sSeq, sRet, sEx, sIf, sSet, sSub, stO, sAsg, sPar, sAug, mCall, i2, b2, sz0, sz1, sz2, sz3, sz4, sz5, sz6, sz7, sz8, sz9, List.length_cons, List.length_nil, Nat.reduceAdd, List.getElem?_cons_zero, List.getElem?_cons_succ, List.set_cons_zero, List.set_cons_succ, if_true, if_false, decide_true, decide_false, Bool.true_and, Bool.and_true, Bool.false_eq_true, reduceCtorEq, ↓reduceIte, wipeD, eqD_int, ng, decide_eq_true hb]
  · refine .inl ⟨by simp [hb], ?_⟩
    simp only [bd, mB, mU, mN, rd, op, mV, mC, asB, mAndT, mOrT, mNotT, mAndV, mOrV, mNotV, mIf, aNil, aCons, mTup, mLs, frL, nwL, bS, sNil, sSeq, sRet, sEx, sIf, sSet, sSub, stO, sAsg, sPar, sAug, mCall, i2, b2, sz0, sz1, sz2, sz3, sz4, sz5, sz6, sz7, sz8, sz9, List.length_cons, List.length_nil, Nat.reduceAdd, List.getElem?_cons_zero, List.getElem?_cons_succ, List.set_cons_zero, List.set_cons_succ, if_true, if_false, decide_true, decide_false, Bool.true_and, Bool.and_true, Bool.false_eq_true, reduceCtorEq, ↓reduceIte, wipeD, eqD_int, ng, decide_eq_false hb]
theorem sum_le {n : Nat} {w b : Nat → Int} {m : Int} (h : ∀ i < n, 0 ≤ w i ∧ w i ≤ m) : ∀ l : List Nat, (∀ i ∈ l, i < n) → 0 ≤ (l.filterMap fun i => if b i = 1 then some (w i) else none).sum ∧ (l.filterMap fun i => if b i = 1 then some (w i) else none).sum ≤ l.length * m
  | [], _ => by simp
  | i :: r, hl => by
    obtain ⟨h1, h2⟩ := sum_le (b := b) h r fun j hj => hl j (List.mem_cons_of_mem _ hj)
    obtain ⟨h3, h4⟩ := h i (hl i List.mem_cons_self)
    have e : ((i :: r).length : Int) * m = r.length * m + m := by
      rw [List.length_cons]; push_cast; rw [Int.add_mul]; omega
    rw [e]
    by_cases hb : b i = 1
    · simp only [List.filterMap_cons, hb, if_true, List.sum_cons]; omega
    · simp only [List.filterMap_cons, hb, if_false]; omega
theorem S_le {m : Int} (h : ∀ i < n, 0 ≤ w i ∧ w i ≤ m) : 0 ≤ S n w b ∧ S n w b ≤ n * m := by
  have := sum_le (b := b) h (List.range n) fun i hi => List.mem_range.mp hi
  rw [List.length_range] at this
  exact this
def gss (n : Nat) (w b : Nat → Int) : Bool := decide (S n w b ≠ 0) && decide (2 * S n w b ≥ n)
theorem guess_ok (hn : n ≤ 8) (hw : ∀ i < n, 0 ≤ w i ∧ w i ≤ n) (h : A[L]? = some (win n w l s)) : m_Winnow__guess [.ref L, .tup ((rI n b).map .int)] A = .ok (.bl (gss n w b)) A := by
  have e0 : m_Winnow__guess [.ref L, .tup ((rI n b).map .int)] A = fin false A.length (b_Winnow__guess [some (.ref L), some (.tup ((rI n b).map .int)), none, none, none] A) := rfl
  have fn : ∀ c : Bool, fin false A.length (.rt (.bl c) A) = .ok (.bl c) A := fun c => by
    unfold fin frzD killD trim2 trimA
    simp [closed]
  obtain ⟨s0, s1⟩ := S_le (b := b) hw
  have s2 : S n w b ≤ 64 := Int.le_trans s1 (by
    have : (n : Int) * n ≤ 8 * 8 := Int.mul_le_mul (by omega) (by omega) (by omega) (by omega)
    omega)
  have hm : decide ((2 : Int).natAbs.log2 + (S n w b).natAbs.log2 < 100000000) = true := by
    have h1 : (2 : Int).natAbs.log2 = 1 := by decide
    have h2 := log2_small (i := S n w b) (b := 10) (by decide) (by omega)
    rw [h1]; simp; omega
  rw [e0, ← fn]
  unfold b_Winnow__guess
  simp only [bd, mB, mU, mN, rd, op, mV, mC, asB, mAndT, mOrT, mNotT, mAndV, mOrV, mNotV, mIf, aNil, aCons, mTup, mLs, frL, nwL, bS, sNil, sSeq, sRet, sEx, sIf, sSet, sSub, stO, sAsg, sPar, sAug, mCall, i2, b2, sz0, sz1, sz2, sz3, sz4, sz5, sz6, sz7, sz8, sz9, List.length_cons, List.length_nil, Nat.reduceAdd, List.getElem?_cons_zero, List.getElem?_cons_succ, List.set_cons_zero, List.set_cons_succ, if_true, if_false, decide_true, decide_false, Bool.true_and, Bool.and_true, Bool.false_eq_true, reduceCtorEq, ↓reduceIte, lc_g1 (b := b) (by omega) h, mN, fInts, lstOf, intsOf_map, Option.bind_some, Option.map_some, eqD_int, ng, hm]
  have hS : (onL n w b).sum = S n w b := rfl
  rw [hS]
  by_cases hz : S n w b = 0
  · have z1 : decide (S n w b = 0) = true := by simp [hz]
    have z2 : gss n w b = false := by unfold gss; simp [hz]
    simp only [z1, z2, Bool.not_true, bd, mB, mU, mN, rd, op, mV, mC, asB, mAndT, mOrT, mNotT, mAndV, mOrV, mNotV, mIf, aNil, aCons, mTup, mLs, frL, nwL, bS, sNil, sSeq, sRet, sEx, sIf, sSet, sSub, stO, sAsg, sPar, sAug, mCall, i2, b2, sz0, sz1, sz2, sz3, sz4, sz5, sz6, sz7, sz8, sz9, List.length_cons, List.length_nil, Nat.reduceAdd, List.getElem?_cons_zero, List.getElem?_cons_succ, List.set_cons_zero, List.set_cons_succ, if_true, if_false, decide_true, decide_false, Bool.true_and, Bool.and_true, Bool.false_eq_true, reduceCtorEq, ↓reduceIte]
  · have z1 : decide (S n w b = 0) = false := by simp [hz]
    have z2 : gss n w b = decide (2 * S n w b ≥ n) := by unfold gss; simp [hz]
    have hf := f_many (m := mV 0) (ρ := [some (.ref L), some (.tup ((rI n b).map .int)), some (.int (S n w b)), none, none]) h rfl
    simp only [z1, z2, Bool.not_false, hf, bd, mB, mU, mN, rd, op, mV, mC, asB, mAndT, mOrT, mNotT, mAndV, mOrV, mNotV, mIf, aNil, aCons, mTup, mLs, frL, nwL, bS, sNil, sSeq, sRet, sEx, sIf, sSet, sSub, stO, sAsg, sPar, sAug, mCall, i2, b2, sz0, sz1, sz2, sz3, sz4, sz5, sz6, sz7, sz8, sz9, List.length_cons, List.length_nil, Nat.reduceAdd, List.getElem?_cons_zero, List.getElem?_cons_succ, List.set_cons_zero, List.set_cons_succ, if_true, if_false, decide_true, decide_false, Bool.true_and, Bool.and_true, Bool.false_eq_true, reduceCtorEq, ↓reduceIte, hm]
theorem boolsOf_map : ∀ bs : List Bool, boolsOf (bs.map .bl) = some bs
  | [] => rfl
  | b :: bs => by simp only [List.map_cons, boolsOf, boolsOf_map bs, Option.map_some]
def zs (n : Nat) (w b : Nat → Int) : List Bool := (List.range n).filterMap fun i => if b i = 1 then some (decide (w i = 0)) else none
theorem zs_D : (rD n fun i => .tup [.int (w i), .int (b i)]).filterMap (fun d => match d with | .tup [.int x, .int y] => if y = 1 then some (.bl (decide (x = 0))) else none | _ => none) = (zs n w b).map D.bl := by
  unfold zs rD
  rw [List.filterMap_map, List.map_filterMap]
  congr 1
  funext i
  show (if b i = 1 then some (D.bl (decide (w i = 0))) else none) = _
  by_cases hb : b i = 1
  · simp [hb]
  · simp [hb]
theorem zs_all (i : Nat) (hi : i < n) (hb : b i = 1) (hw : w i ≠ 0) : (zs n w b).all id = false := by
  rw [List.all_eq_false]
  refine ⟨false, ?_, by simp⟩
  unfold zs
  rw [List.mem_filterMap]
  exact ⟨i, List.mem_range.mpr hi, by simp [hb, hw]⟩
theorem lc_s1 (hn : n ≤ 100) (h : A[L]? = some (win n w l s)) {tk : Bool} : lc_Winnow__see_1 [some (.ref L), some (.tup ((rI n b).map .int)), some (.bl tk), none, none, none] A = .ok ((zs n w b).map D.bl) A := by
  rw [← zs_D]
  refine mLc_pure (zipW h rfl rfl) (by simp; omega) fun d hd => ?_
  obtain ⟨i, hi, rfl⟩ := mem_rD hd
  refine ⟨_, rfl, ?_⟩
  by_cases hb : b i = 1
  · refine .inr ⟨.bl (decide (w i = 0)), by simp [hb], ?_, ?_⟩
    · simp only [bd, mB, mU, mN, rd, op, mV, mC, asB, mAndT, mOrT, mNotT, mAndV, mOrV, mNotV, mIf, aNil, aCons, mTup, mLs, frL, nwL, bS, sNil, sSeq, sRet, sEx, sIf, sSet, sSub, stO, sAsg, sPar, sAug, mCall, i2, b2, sz0, sz1, sz2, sz3, sz4, sz5, sz6, sz7, sz8, sz9, List.length_cons, List.length_nil, Nat.reduceAdd, List.getElem?_cons_zero, List.getElem?_cons_succ, List.set_cons_zero, List.set_cons_succ, if_true, if_false, decide_true, decide_false, Bool.true_and, Bool.and_true, Bool.false_eq_true, reduceCtorEq, ↓reduceIte, wipeD, eqD_int, ng, decide_eq_true hb]
    · simp only [bd, mB, mU, mN, rd, op, mV, mC, asB, mAndT, mOrT, mNotT, mAndV, mOrV, mNotV, mIf, aNil, aCons, mTup, mLs, frL, nwL, bS, sNil, sSeq, sRet, sEx, sIf, sSet, sSub, stO, sAsg, sPar, sAug, mCall, i2, b2, sz0, sz1, sz2, sz3, sz4, sz5, sz6, sz7, sz8, sz9, List.length_cons, List.length_nil, Nat.reduceAdd, List.getElem?_cons_zero, List.getElem?_cons_succ, List.set_cons_zero, List.set_cons_succ, if_true, if_false, decide_true, decide_false, Bool.true_and, Bool.and_true, Bool.false_eq_true, reduceCtorEq, ↓reduceIte, wipeD, eqD_int, ng]
  · refine .inl ⟨by simp [hb], ?_⟩
    simp only [bd, mB, mU, mN, rd, op, mV, mC, asB, mAndT, mOrT, mNotT, mAndV, mOrV, mNotV, mIf, aNil, aCons, mTup, mLs, frL, nwL, bS, sNil, sSeq, sRet, sEx, sIf, sSet, sSub, stO, sAsg, sPar, sAug, mCall, i2, b2, sz0, sz1, sz2, sz3, sz4, sz5, sz6, sz7, sz8, sz9, List.length_cons, List.length_nil, Nat.reduceAdd, List.getElem?_cons_zero, List.getElem?_cons_succ, List.set_cons_zero, List.set_cons_succ, if_true, if_false, decide_true, decide_false, Bool.true_and, Bool.and_true, Bool.false_eq_true, reduceCtorEq, ↓reduceIte, wipeD, eqD_int, ng, decide_eq_false hb]
def dbl (w b : Nat → Int) : Nat → Int := fun i => if b i = 1 then 2 * w i else w i
def zer (w b : Nat → Int) : Nat → Int := fun i => if b i = 1 then 0 else w i
theorem mul_small {x y : Int} (h1 : x.natAbs < 2 ^ 40) (h2 : y.natAbs < 2 ^ 40) : decide (x.natAbs.log2 + y.natAbs.log2 < 100000000) = true := by
  have a1 := log2_small (by decide) h1
  have a2 := log2_small (by decide) h2
  simp; omega
theorem all_D {f : Nat → D} {g : Nat → Int} {F : D → Option D} (h : ∀ i, F (f i) = some (.int (g i))) : (rD n f).filterMap F = (rI n g).map D.int := by
  unfold rD rI
  rw [List.filterMap_map, List.map_map, ← List.filterMap_eq_map]
  congr 1
  funext i
  exact h i
theorem lc_s2 (hn : n ≤ 8) (hw : ∀ i < n, 0 ≤ w i ∧ w i ≤ n) (h : A[L]? = some (win n w l s)) {tk g : Bool} : lc_Winnow__see_2 [some (.ref L), some (.tup ((rI n b).map .int)), some (.bl tk), none, none, some (.bl g)] A = .ok ((rI n (dbl w b)).map D.int) A := by
  rw [← all_D (g := dbl w b) (f := fun i => .tup [.int (w i), .int (b i)]) (F := fun d => match d with | .tup [.int x, .int y] => some (.int (if y = 1 then 2 * x else x)) | _ => none) fun i => rfl]
  refine mLc_pure (zipW h rfl rfl) (by simp; omega) fun d hd => ?_
  obtain ⟨i, hi, rfl⟩ := mem_rD hd
  obtain ⟨w0, w1⟩ := hw i hi
  refine ⟨_, rfl, .inr ⟨_, rfl, rfl, ?_⟩⟩
  by_cases hb : b i = 1
  · simp only [bd, mB, mU, mN, rd, op, mV, mC, asB, mAndT, mOrT, mNotT, mAndV, mOrV, mNotV, mIf, aNil, aCons, mTup, mLs, frL, nwL, bS, sNil, sSeq, sRet, sEx, sIf, sSet, sSub, stO, sAsg, sPar, sAug, mCall, i2, b2, sz0, sz1, sz2, sz3, sz4, sz5, sz6, sz7, sz8, sz9, List.length_cons, List.length_nil, Nat.reduceAdd, List.getElem?_cons_zero, List.getElem?_cons_succ, List.set_cons_zero, List.set_cons_succ, if_true, if_false, decide_true, decide_false, Bool.true_and, Bool.and_true, Bool.false_eq_true, reduceCtorEq, ↓reduceIte, wipeD, eqD_int, ng, decide_eq_true hb, mul_small (x := 2) (y := w i) (by decide) (by omega), if_pos hb]
  · simp only [bd, mB, mU, mN, rd, op, mV, mC, asB, mAndT, mOrT, mNotT, mAndV, mOrV, mNotV, mIf, aNil, aCons, mTup, mLs, frL, nwL, bS, sNil, sSeq, sRet, sEx, sIf, sSet, sSub, stO, sAsg, sPar, sAug, mCall, i2, b2, sz0, sz1, sz2, sz3, sz4, sz5, sz6, sz7, sz8, sz9, List.length_cons, List.length_nil, Nat.reduceAdd, List.getElem?_cons_zero, List.getElem?_cons_succ, List.set_cons_zero, List.set_cons_succ, if_true, if_false, decide_true, decide_false, Bool.true_and, Bool.and_true, Bool.false_eq_true, reduceCtorEq, ↓reduceIte, wipeD, eqD_int, ng, decide_eq_false hb, if_neg hb]
theorem lc_s3 (hn : n ≤ 8) (h : A[L]? = some (win n w l s)) {tk g : Bool} : lc_Winnow__see_3 [some (.ref L), some (.tup ((rI n b).map .int)), some (.bl tk), none, none, some (.bl g)] A = .ok ((rI n (zer w b)).map D.int) A := by
  rw [← all_D (g := zer w b) (f := fun i => .tup [.int (w i), .int (b i)]) (F := fun d => match d with | .tup [.int x, .int y] => some (.int (if y = 1 then 0 else x)) | _ => none) fun i => rfl]
  refine mLc_pure (zipW h rfl rfl) (by simp; omega) fun d hd => ?_
  obtain ⟨i, hi, rfl⟩ := mem_rD hd
  refine ⟨_, rfl, .inr ⟨_, rfl, rfl, ?_⟩⟩
  by_cases hb : b i = 1
  · simp only [bd, mB, mU, mN, rd, op, mV, mC, asB, mAndT, mOrT, mNotT, mAndV, mOrV, mNotV, mIf, aNil, aCons, mTup, mLs, frL, nwL, bS, sNil, sSeq, sRet, sEx, sIf, sSet, sSub, stO, sAsg, sPar, sAug, mCall, i2, b2, sz0, sz1, sz2, sz3, sz4, sz5, sz6, sz7, sz8, sz9, List.length_cons, List.length_nil, Nat.reduceAdd, List.getElem?_cons_zero, List.getElem?_cons_succ, List.set_cons_zero, List.set_cons_succ, if_true, if_false, decide_true, decide_false, Bool.true_and, Bool.and_true, Bool.false_eq_true, reduceCtorEq, ↓reduceIte, wipeD, eqD_int, ng, decide_eq_true hb, if_pos hb]
  · simp only [bd, mB, mU, mN, rd, op, mV, mC, asB, mAndT, mOrT, mNotT, mAndV, mOrV, mNotV, mIf, aNil, aCons, mTup, mLs, frL, nwL, bS, sNil, sSeq, sRet, sEx, sIf, sSet, sSub, stO, sAsg, sPar, sAug, mCall, i2, b2, sz0, sz1, sz2, sz3, sz4, sz5, sz6, sz7, sz8, sz9, List.length_cons, List.length_nil, Nat.reduceAdd, List.getElem?_cons_zero, List.getElem?_cons_succ, List.set_cons_zero, List.set_cons_succ, if_true, if_false, decide_true, decide_false, Bool.true_and, Bool.and_true, Bool.false_eq_true, reduceCtorEq, ↓reduceIte, wipeD, eqD_int, ng, decide_eq_false hb, if_neg hb]
theorem m_guess {f : FM} (h : A[L]? = some (win n w l s)) : methOf [("Winnow", f)] "guess" A (.ref L) = some f := by
  unfold methOf win at *
  simp only [h]
  rfl
theorem m_see {f : FM} (h : A[L]? = some (win n w l s)) : methOf [("Winnow", f)] "see" A (.ref L) = some f := by
  unfold methOf win at *
  simp only [h]
  rfl
/-- what is seen: the weights, and which count goes up -/
def upW (n : Nat) (w b : Nat → Int) (tk : Bool) : Nat → Int := if tk && !gss n w b then dbl w b else if gss n w b && !tk then zer w b else w
def upL (n : Nat) (w b : Nat → Int) (tk : Bool) : Int := if tk && !gss n w b then 1 else 0
def upS (n : Nat) (w b : Nat → Int) (tk : Bool) : Int := if gss n w b && !tk then 1 else 0
theorem fin_bl {k : Nat} {A : Sto} {c : Bool} (h : A.length = k) : fin false k (.rt (.bl c) A) = .ok (.bl c) A := by
  unfold fin frzD killD trim2 trimA
  simp [closed, h]
theorem see_ok (hn : n ≤ 8) (hw : ∀ i < n, 0 ≤ w i ∧ w i ≤ n) (h : A[L]? = some (win n w l s)) {tk : Bool} (ht : tk = true → ∃ i, i < n ∧ b i = 1 ∧ w i ≠ 0) :
    m_Winnow__see [.ref L, .tup ((rI n b).map .int), .bl tk] A = .ok (.bl (gss n w b)) (A.set L (win n (upW n w b tk) (l + upL n w b tk) (s + upS n w b tk))) := by
  have e0 : m_Winnow__see [.ref L, .tup ((rI n b).map .int), .bl tk] A = fin false A.length (b_Winnow__see [some (.ref L), some (.tup ((rI n b).map .int)), some (.bl tk), none, none, none] A) := rfl
  have hlt : L < A.length := (List.getElem?_eq_some_iff.mp h).1
  have hg : ∀ o : AO, (A.set L o)[L]? = some o := fun o => List.getElem?_set_self hlt
  have hG := guess_ok (b := b) hn hw h
  have hall : tk = true → (zs n w b).all id = false := fun e => by
    obtain ⟨i, a1, a2, a3⟩ := ht e
    exact zs_all i a1 a2 a3
  rw [e0, ← fin_bl (k := A.length) (A := A.set L (win n (upW n w b tk) (l + upL n w b tk) (s + upS n w b tk))) (by simp)]
  unfold b_Winnow__see
  cases tk with
  | false =>
    cases hgs : gss n w b with
    | false =>
      have u1 : upW n w b false = w := by simp [upW, hgs]
      have u2 : upL n w b false = 0 := by simp [upL]
      have u3 : upS n w b false = 0 := by simp [upS, hgs]
      rw [u1, u2, u3, Int.add_zero, Int.add_zero, set_same h]
      simp only [bd, mB, mU, mN, rd, op, mV, mC, asB, mAndT, mOrT, mNotT, mAndV, mOrV, mNotV, mIf, aNil, aCons, mTup, mLs, frL, nwL, bS, sNil, sSeq, sRet, sEx, sIf, sSet, sSub, stO, sAsg, sPar, sAug, mCall, i2, b2, sz0, sz1, sz2, sz3, sz4, sz5, sz6, sz7, sz8, sz9, List.length_cons, List.length_nil, Nat.reduceAdd, List.getElem?_cons_zero, List.getElem?_cons_succ, List.set_cons_zero, List.set_cons_succ, if_true, if_false, decide_true, decide_false, Bool.true_and, Bool.and_true, Bool.false_eq_true, reduceCtorEq, ↓reduceIte, mMeth, m_guess h, hG, hgs, Bool.not_false, Bool.not_true]
    | true =>
      have u1 : upW n w b false = zer w b := by simp [upW, hgs]
      have u2 : upL n w b false = 0 := by simp [upL]
      have u3 : upS n w b false = 1 := by simp [upS, hgs]
      rw [u1, u2, u3, Int.add_zero]
      simp only [bd, mB, mU, mN, rd, op, mV, mC, asB, mAndT, mOrT, mNotT, mAndV, mOrV, mNotV, mIf, aNil, aCons, mTup, mLs, frL, nwL, bS, sNil, sSeq, sRet, sEx, sIf, sSet, sSub, stO, sAsg, sPar, sAug, mCall, i2, b2, sz0, sz1, sz2, sz3, sz4, sz5, sz6, sz7, sz8, sz9, List.length_cons, List.length_nil, Nat.reduceAdd, List.getElem?_cons_zero, List.getElem?_cons_succ, List.set_cons_zero, List.set_cons_succ, if_true, if_false, decide_true, decide_false, Bool.true_and, Bool.and_true, Bool.false_eq_true, reduceCtorEq, ↓reduceIte, mMeth, m_guess h, hG, hgs, Bool.not_false, Bool.not_true, sFldD, lc_s3 hn h, p_weights h, sAugFC, i_spares (hg _), augA, p_spares (hg _), List.set_set]
  | true =>
    have ha := hall rfl
    cases hgs : gss n w b with
    | true =>
      have u1 : upW n w b true = w := by simp [upW, hgs]
      have u2 : upL n w b true = 0 := by simp [upL, hgs]
      have u3 : upS n w b true = 0 := by simp [upS]
      rw [u1, u2, u3, Int.add_zero, Int.add_zero, set_same h]
      simp only [bd, mB, mU, mN, rd, op, mV, mC, asB, mAndT, mOrT, mNotT, mAndV, mOrV, mNotV, mIf, aNil, aCons, mTup, mLs, frL, nwL, bS, sNil, sSeq, sRet, sEx, sIf, sSet, sSub, stO, sAsg, sPar, sAug, mCall, i2, b2, sz0, sz1, sz2, sz3, sz4, sz5, sz6, sz7, sz8, sz9, List.length_cons, List.length_nil, Nat.reduceAdd, List.getElem?_cons_zero, List.getElem?_cons_succ, List.set_cons_zero, List.set_cons_succ, if_true, if_false, decide_true, decide_false, Bool.true_and, Bool.and_true, Bool.false_eq_true, reduceCtorEq, ↓reduceIte, mN, fBools, lstOf, lc_s1 (b := b) (by omega) h, boolsOf_map, ha, Option.bind_some, Option.map_some, mMeth, m_guess h, hG, hgs, Bool.not_false, Bool.not_true]
    | false =>
      have u1 : upW n w b true = dbl w b := by simp [upW, hgs]
      have u2 : upL n w b true = 1 := by simp [upL, hgs]
      have u3 : upS n w b true = 0 := by simp [upS]
      rw [u1, u2, u3, Int.add_zero]
      simp only [bd, mB, mU, mN, rd, op, mV, mC, asB, mAndT, mOrT, mNotT, mAndV, mOrV, mNotV, mIf, aNil, aCons, mTup, mLs, frL, nwL, bS, sNil, sSeq, sRet, sEx, sIf, sSet, sSub, stO, sAsg, sPar, sAug, mCall, i2, b2, sz0, sz1, sz2, sz3, sz4, sz5, sz6, sz7, sz8, sz9, List.length_cons, List.length_nil, Nat.reduceAdd, List.getElem?_cons_zero, List.getElem?_cons_succ, List.set_cons_zero, List.set_cons_succ, if_true, if_false, decide_true, decide_false, Bool.true_and, Bool.and_true, Bool.false_eq_true, reduceCtorEq, ↓reduceIte, mN, fBools, lstOf, lc_s1 (b := b) (by omega) h, boolsOf_map, ha, Option.bind_some, Option.map_some, mMeth, m_guess h, hG, hgs, Bool.not_false, Bool.not_true, sFldD, lc_s2 hn hw h, p_weights h, sAugFC, i_lacks (hg _), augA, p_lacks (hg _), List.set_set]
end
/-! ### the bound -/
theorem on_ge {w b : Nat → Int} {n : Nat} (h : ∀ i < n, 0 ≤ w i) : ∀ (l : List Nat), (∀ i ∈ l, i < n) → 0 ≤ (l.filterMap fun i => if b i = 1 then some (w i) else none).sum ∧ ∀ i ∈ l, b i = 1 → w i ≤ (l.filterMap fun i => if b i = 1 then some (w i) else none).sum
  | [], _ => ⟨by simp, by simp⟩
  | j :: r, hl => by
    obtain ⟨h1, h2⟩ := on_ge (b := b) h r fun i hi => hl i (List.mem_cons_of_mem _ hi)
    have h3 := h j (hl j List.mem_cons_self)
    by_cases hb : b j = 1
    · simp only [List.filterMap_cons, hb, if_true, List.sum_cons]
      refine ⟨by omega, fun i hi hbi => ?_⟩
      rcases List.mem_cons.mp hi with rfl | hi
      · omega
      · have := h2 i hi hbi; omega
    · simp only [List.filterMap_cons, hb, if_false]
      refine ⟨h1, fun i hi hbi => ?_⟩
      rcases List.mem_cons.mp hi with rfl | hi
      · exact (hb hbi).elim
      · exact h2 i hi hbi
theorem sum_dbl {w b : Nat → Int} : ∀ l : List Nat, (l.map (dbl w b)).sum = (l.map w).sum + (l.filterMap fun i => if b i = 1 then some (w i) else none).sum
  | [] => by simp
  | j :: r => by
    have := sum_dbl (w := w) (b := b) r
    by_cases hb : b j = 1
    · simp only [List.map_cons, List.sum_cons, List.filterMap_cons, dbl, hb, if_true] at *; omega
    · simp only [List.map_cons, List.sum_cons, List.filterMap_cons, dbl, hb, if_false] at *; omega
theorem sum_zer {w b : Nat → Int} : ∀ l : List Nat, (l.map (zer w b)).sum = (l.map w).sum - (l.filterMap fun i => if b i = 1 then some (w i) else none).sum
  | [] => by simp
  | j :: r => by
    have := sum_zer (w := w) (b := b) r
    by_cases hb : b j = 1
    · simp only [List.map_cons, List.sum_cons, List.filterMap_cons, zer, hb, if_true] at *; omega
    · simp only [List.map_cons, List.sum_cons, List.filterMap_cons, zer, hb, if_false] at *; omega
structure MInv (n : Nat) (ps : List Int) (w : Nat → Int) (l s : Int) : Prop where
  bd : ∀ i < n, 0 ≤ w i ∧ w i ≤ n
  ex : ∃ e : Nat → Nat, (∀ p ∈ ps, w p.toNat = 2 ^ e p.toNat ∧ (e p.toNat = 0 ∨ w p.toNat < n)) ∧ l ≤ ((ps.map fun p => e p.toNat).sum : Nat)
  pot : 2 * (rI n w).sum + s * n ≤ 2 * n + l * n
  l0 : 0 ≤ l
  s0 : 0 ≤ s
def anyP (ps : List Int) (b : Nat → Int) : Bool := ps.any fun p => decide (b p.toNat = 1)
theorem MInv.start {n : Nat} {ps : List Int} (hn : 1 ≤ n) : MInv n ps (fun _ => 1) 0 0 where
  bd := fun i hi => ⟨by omega, by omega⟩
  ex := ⟨fun _ => 0, fun p _ => ⟨by simp, .inl rfl⟩, by omega⟩
  pot := by
    have : ∀ l : List Nat, (l.map fun _ => (1 : Int)).sum = l.length := fun l => by
      induction l with
      | nil => rfl
      | cons x r ih => simp only [List.map_cons, List.sum_cons, ih, List.length_cons]; omega
    unfold rI
    rw [this, List.length_range]
    omega
  l0 := by omega
  s0 := by omega
theorem esum_le {e : Nat → Nat} {b : Nat → Int} : ∀ ps : List Int, (ps.map fun p => e p.toNat).sum ≤ (ps.map fun p => if b p.toNat = 1 then e p.toNat + 1 else e p.toNat).sum
  | [] => Nat.le_refl _
  | p :: ps => by
    have := esum_le (e := e) (b := b) ps
    simp only [List.map_cons, List.sum_cons]
    split <;> omega
theorem esum_lt {e : Nat → Nat} {b : Nat → Int} {p : Int} (hb : b p.toNat = 1) : ∀ {ps : List Int}, p ∈ ps → (ps.map fun p => e p.toNat).sum + 1 ≤ (ps.map fun p => if b p.toNat = 1 then e p.toNat + 1 else e p.toNat).sum
  | q :: ps, h => by
    have h1 := esum_le (e := e) (b := b) ps
    simp only [List.map_cons, List.sum_cons]
    rcases List.mem_cons.mp h with rfl | h
    · rw [if_pos hb]; omega
    · have := esum_lt (e := e) hb h
      split <;> omega
theorem MInv.step {n : Nat} {ps : List Int} {w b : Nat → Int} {l s : Int} (I : MInv n ps w l s) (hp : ∀ p ∈ ps, 0 ≤ p ∧ p < n) : MInv n ps (upW n w b (anyP ps b)) (l + upL n w b (anyP ps b)) (s + upS n w b (anyP ps b)) := by
  obtain ⟨bd, ⟨e, he, hl⟩, pot, l0, s0⟩ := I
  obtain ⟨on0, on1⟩ := on_ge (b := b) (fun i hi => (bd i hi).1) (List.range n) fun i hi => List.mem_range.mp hi
  have onS : S n w b = ((List.range n).filterMap fun i => if b i = 1 then some (w i) else none).sum := rfl
  rw [← onS] at on0 on1
  unfold upW upL upS
  cases ha : anyP ps b with
  | true =>
    obtain ⟨p, hpm, hb⟩ : ∃ p ∈ ps, b p.toNat = 1 := by
      unfold anyP at ha
      obtain ⟨p, h1, h2⟩ := List.any_eq_true.mp ha
      exact ⟨p, h1, of_decide_eq_true h2⟩
    cases hg : gss n w b with
    | true =>
      simp only [Bool.not_true, Bool.and_false, Bool.true_and, Bool.false_eq_true, ↓reduceIte, Int.add_zero]
      exact ⟨bd, ⟨e, he, hl⟩, pot, l0, s0⟩
    | false =>
      simp only [Bool.not_true, Bool.not_false, Bool.and_true, Bool.and_false, Bool.false_eq_true, ↓reduceIte, Int.add_zero]
      obtain ⟨p0, p1⟩ := hp p hpm
      have hpn : p.toNat < n := by omega
      have wp : 1 ≤ w p.toNat := by
        rw [(he p hpm).1]
        have : (1 : Int) ≤ 2 ^ e p.toNat := by
          have := Nat.one_le_two_pow (n := e p.toNat)
          exact_mod_cast this
        exact this
      have sp := on1 p.toNat (List.mem_range.mpr hpn) hb
      have s2 : 2 * S n w b < n := by
        unfold gss at hg
        simp only [ne_eq, ge_iff_le, Bool.and_eq_false_imp, decide_eq_true_eq, decide_eq_false_iff_not, Int.not_le] at hg
        exact hg (by omega)
      have big : ∀ i < n, b i = 1 → 2 * w i < n := fun i hi hbi => by
        have := on1 i (List.mem_range.mpr hi) hbi
        omega
      refine ⟨fun i hi => ?_, ⟨fun i => if b i = 1 then e i + 1 else e i, fun q hq => ?_, ?_⟩, ?_, by omega, s0⟩
      · unfold dbl
        have := bd i hi
        split
        · rename_i hbi; have := big i hi hbi; omega
        · exact this
      · obtain ⟨h1, h2⟩ := he q hq
        obtain ⟨q0, q1⟩ := hp q hq
        unfold dbl
        by_cases hbq : b q.toNat = 1
        · simp only [hbq, if_true]
          refine ⟨by rw [h1, Int.pow_succ]; omega, .inr ?_⟩
          exact big q.toNat (by omega) hbq
        · simp only [hbq, if_false]
          exact ⟨h1, h2⟩
      · have := esum_lt (e := e) hb hpm
        show l + 1 ≤ ((ps.map fun p => if b p.toNat = 1 then e p.toNat + 1 else e p.toNat).sum : Nat)
        omega
      · have e1 : (rI n (dbl w b)).sum = (rI n w).sum + S n w b := by rw [onS]; exact sum_dbl _
        rw [e1, Int.add_mul]
        omega
  | false =>
    cases hg : gss n w b with
    | false =>
      simp only [Bool.not_false, Bool.and_false, Bool.false_and, Bool.false_eq_true, ↓reduceIte, Int.add_zero]
      exact ⟨bd, ⟨e, he, hl⟩, pot, l0, s0⟩
    | true =>
      simp only [Bool.not_false, Bool.not_true, Bool.and_true, Bool.false_and, Bool.false_eq_true, ↓reduceIte, Int.add_zero]
      have s2 : n ≤ 2 * S n w b := by
        unfold gss at hg
        simp only [ne_eq, ge_iff_le, Bool.and_eq_true, decide_eq_true_eq] at hg
        exact hg.2
      refine ⟨fun i hi => ?_, ⟨e, fun q hq => ?_, hl⟩, ?_, l0, by omega⟩
      · unfold zer
        have := bd i hi
        split
        · omega
        · exact this
      · obtain ⟨h1, h2⟩ := he q hq
        have hbq : ¬ b q.toNat = 1 := fun z => by
          unfold anyP at ha
          rw [List.any_eq_false] at ha
          exact ha q hq (decide_eq_true z)
        unfold zer
        simp only [hbq, if_false]
        exact ⟨h1, h2⟩
      · have e1 : (rI n (zer w b)).sum = (rI n w).sum - S n w b := by rw [onS]; exact sum_zer _
        rw [e1, Int.add_mul]
        omega
/-- 2 ^ lg n is the first power not below n -/
def lg (n : Nat) : Nat := if n ≤ 1 then 0 else if n ≤ 2 then 1 else if n ≤ 4 then 2 else 3
theorem lg_pow {n : Nat} (h : n ≤ 8) : n ≤ 2 ^ lg n := by
  unfold lg
  split
  · omega
  · split
    · omega
    · split <;> omega
theorem sum_nonneg {w : Nat → Int} : ∀ {l : List Nat}, (∀ i ∈ l, 0 ≤ w i) → 0 ≤ (l.map w).sum
  | [], _ => by simp
  | i :: r, h => by
    have h1 := sum_nonneg (w := w) (l := r) fun j hj => h j (List.mem_cons_of_mem _ hj)
    have h2 := h i List.mem_cons_self
    simp only [List.map_cons, List.sum_cons]; omega
theorem esum_bound {e : Nat → Nat} {m : Nat} : ∀ {ps : List Int}, (∀ p ∈ ps, e p.toNat ≤ m) → (ps.map fun p => e p.toNat).sum ≤ ps.length * m
  | [], _ => by simp
  | p :: ps, h => by
    have h1 := esum_bound (e := e) (m := m) (ps := ps) fun q hq => h q (List.mem_cons_of_mem _ hq)
    have h2 := h p List.mem_cons_self
    simp only [List.map_cons, List.sum_cons, List.length_cons]
    rw [Nat.add_mul]; omega
theorem MInv.fin {n : Nat} {ps : List Int} {w : Nat → Int} {l s : Int} (I : MInv n ps w l s) (h1 : 1 ≤ n) (h8 : n ≤ 8) : s ≤ l + 2 ∧ l + s ≤ 2 * (ps.length : Int) * (lg n + 1) + 2 := by
  obtain ⟨bd, ⟨e, he, hl⟩, pot, l0, s0⟩ := I
  have hs : s ≤ l + 2 := by
    have hw : 0 ≤ (rI n w).sum := sum_nonneg fun i hi => (bd i (List.mem_range.mp hi)).1
    have : s * n ≤ (l + 2) * n := by rw [Int.add_mul]; omega
    exact Int.le_of_mul_le_mul_right this (by omega)
  have hb : ∀ p ∈ ps, e p.toNat ≤ lg n := fun p hp => by
    obtain ⟨a1, a2⟩ := he p hp
    rcases a2 with a2 | a2
    · omega
    · rw [a1] at a2
      have h3 : 2 ^ e p.toNat < n := by exact_mod_cast a2
      have h4 := Nat.lt_of_lt_of_le h3 (lg_pow h8)
      exact Nat.le_of_lt ((Nat.pow_lt_pow_iff_right (by decide)).mp h4)
  have h5 := esum_bound hb
  refine ⟨hs, ?_⟩
  have h6 : l ≤ (ps.length : Int) * lg n := by
    have : ((ps.map fun p => e p.toNat).sum : Int) ≤ (ps.length * lg n : Nat) := by exact_mod_cast h5
    push_cast at this
    omega
  have h7 : 2 * (ps.length : Int) * (lg n + 1) = 2 * ((ps.length : Int) * lg n) + 2 * ps.length := by
    rw [Int.mul_add, Int.mul_assoc]; omega
  rw [h7]
  omega
/-! ### the small ones -/
section
variable {A : Sto} {L n : Nat} {w b : Nat → Int} {l s : Int}
def nzI (n : Nat) (w : Nat → Int) : List Int := (List.range n).filterMap fun i => if w i ≠ 0 then some (i : Int) else none
theorem fin_tup {k : Nat} {A : Sto} {ns : List Int} (h : A.length = k) : fin false k (.rt (.tup (ns.map .int)) A) = .ok (.tup (ns.map .int)) A := by
  have hc : ∀ ns : List Int, closedL k (ns.map .int) = true := fun ns => by
    induction ns with
    | nil => rfl
    | cons n r ih => simp [closedL, closed, ih]
  unfold fin frzD killD trim2 trimA
  simp [closed, h, hc]
theorem alive_ok (hn : n ≤ 8) (h : A[L]? = some (win n w l s)) : m_alive [.ref L] A = .ok (.tup ((nzI n w).map .int)) A := by
  have e0 : m_alive [.ref L] A = fin false A.length (b_alive [some (.ref L), none, none] A) := rfl
  have hc : lc_alive_1 [some (.ref L), none, none] A = .ok ((nzI n w).map .int) A := by
    have e : (rD n fun i => .tup [.int (i : Nat), .int (w i)]).filterMap (fun d => match d with | .tup [x, .int y] => if y ≠ 0 then some x else none | _ => none) = (nzI n w).map D.int := by
      unfold nzI rD
      rw [List.filterMap_map, List.map_filterMap]
      congr 1
      funext i
      show (if w i ≠ 0 then some (D.int (i : Nat)) else none) = _
      by_cases hb : w i = 0
      · simp [hb]
      · simp [hb]
    rw [← e]
    refine mLc_pure (A1 := A) ?_ (by simp; omega) fun d hd => ?_
    · unfold mIt bd
      simp only [f_weights h (m := mV 0) (ρ := [some (.ref L), none, none]) rfl, op, seqB, Option.map_some]
      rw [rI_D, enumD_map]
    · obtain ⟨i, hi, rfl⟩ := mem_rD hd
      refine ⟨_, rfl, ?_⟩
      by_cases hb : w i = 0
      · refine .inl ⟨by simp [hb], ?_⟩
        simp only [bd, mB, mU, mN, rd, op, mV, mC, asB, mAndT, mOrT, mNotT, mAndV, mOrV, mNotV, mIf, aNil, aCons, mTup, mLs, frL, nwL, bS, sNil, sSeq, sRet, sEx, sIf, sSet, sSub, stO, sAsg, sPar, sAug, mCall, i2, b2, sz0, sz1, sz2, sz3, sz4, sz5, sz6, sz7, sz8, sz9, List.length_cons, List.length_nil, Nat.reduceAdd, List.getElem?_cons_zero, List.getElem?_cons_succ, List.set_cons_zero, List.set_cons_succ, if_true, if_false, decide_true, decide_false, Bool.true_and, Bool.and_true, Bool.false_eq_true, reduceCtorEq, ↓reduceIte, wipeD, eqD_int, ng, decide_eq_true hb, Bool.not_true]
      · refine .inr ⟨.int (i : Nat), by simp [hb], ?_, rfl⟩
        simp only [bd, mB, mU, mN, rd, op, mV, mC, asB, mAndT, mOrT, mNotT, mAndV, mOrV, mNotV, mIf, aNil, aCons, mTup, mLs, frL, nwL, bS, sNil, sSeq, sRet, sEx, sIf, sSet, sSub, stO, sAsg, sPar, sAug, mCall, i2, b2, sz0, sz1, sz2, sz3, sz4, sz5, sz6, sz7, sz8, sz9, List.length_cons, List.length_nil, Nat.reduceAdd, List.getElem?_cons_zero, List.getElem?_cons_succ, List.set_cons_zero, List.set_cons_succ, if_true, if_false, decide_true, decide_false, Bool.true_and, Bool.and_true, Bool.false_eq_true, reduceCtorEq, ↓reduceIte, wipeD, eqD_int, ng, decide_eq_false hb, Bool.not_false]
  rw [e0, ← fin_tup (k := A.length) rfl]
  unfold b_alive
  simp only [bd, mB, mU, mN, rd, op, mV, mC, asB, mAndT, mOrT, mNotT, mAndV, mOrV, mNotV, mIf, aNil, aCons, mTup, mLs, frL, nwL, bS, sNil, sSeq, sRet, sEx, sIf, sSet, sSub, stO, sAsg, sPar, sAug, mCall, i2, b2, sz0, sz1, sz2, sz3, sz4, sz5, sz6, sz7, sz8, sz9, List.length_cons, List.length_nil, Nat.reduceAdd, List.getElem?_cons_zero, List.getElem?_cons_succ, List.set_cons_zero, List.set_cons_succ, if_true, if_false, decide_true, decide_false, Bool.true_and, Bool.and_true, Bool.false_eq_true, reduceCtorEq, ↓reduceIte, hc, mN, dTup, dSeq, seqOf, lstOf, Option.map_some]
theorem weight_ok (h : A[L]? = some (win n w l s)) : m_weight_of [.ref L] A = .ok (.int (rI n w).sum) A := by
  have e0 : m_weight_of [.ref L] A = fin false A.length (b_weight_of [some (.ref L)] A) := rfl
  rw [e0, ← fin_int (n := A.length) rfl]
  unfold b_weight_of
  simp only [bd, mB, mU, mN, rd, op, mV, mC, asB, mAndT, mOrT, mNotT, mAndV, mOrV, mNotV, mIf, aNil, aCons, mTup, mLs, frL, nwL, bS, sNil, sSeq, sRet, sEx, sIf, sSet, sSub, stO, sAsg, sPar, sAug, mCall, i2, b2, sz0, sz1, sz2, sz3, sz4, sz5, sz6, sz7, sz8, sz9, List.length_cons, List.length_nil, Nat.reduceAdd, List.getElem?_cons_zero, List.getElem?_cons_succ, List.set_cons_zero, List.set_cons_succ, if_true, if_false, decide_true, decide_false, Bool.true_and, Bool.and_true, Bool.false_eq_true, reduceCtorEq, ↓reduceIte, mN, f_weights h (m := mV 0) (ρ := [some (.ref L)]) rfl, fInts, lstOf, intsOf_map, Option.bind_some, Option.map_some]
theorem at_rI {n : Nat} {b : Nat → Int} {k : Int} (h0 : 0 ≤ k) (h1 : k < n) : atI ((rI n b).map D.int) k = some (.int (b k.toNat)) := by
  unfold atI ixN
  have hl : ((rI n b).map D.int).length = n := by simp [rI]
  rw [hl, if_pos h0, if_pos h1]
  show ((rI n b).map D.int)[k.toNat]? = _
  have : k.toNat < n := by omega
  simp [rI, this]
theorem anyL_pure {g : MG} {m : ME} {ρ : Sm.Env} {A : Sto} {f : D → Bool} : ∀ {ds : List D}, (∀ d ∈ ds, ∃ ρ1, g d ρ = some ρ1 ∧ m ρ1 A = .ok (.bl (f d)) A) → anyL true g yesT m ds ρ A = .ok (ds.any f) A
  | [], _ => rfl
  | d :: ds, h => by
    have ih := anyL_pure (f := f) fun d' hd => h d' (List.mem_cons_of_mem _ hd)
    obtain ⟨ρ1, h1, h2⟩ := h d List.mem_cons_self
    unfold anyL
    simp only [h1, yesT, h2]
    cases hf : f d with
    | true => simp [hf]
    | false => simp [hf, ih]
theorem is_any_ok {ps : List Int} (hp : ∀ p ∈ ps, 0 ≤ p ∧ p < n) (h0 : A[0]? = some (.tabG 0)) : m_is_any [.tup ((rI n b).map .int), .lst (ps.map .int)] A = .ok (.bl (anyP ps b)) A := by
  have e0 : m_is_any [.tup ((rI n b).map .int), .lst (ps.map .int)] A = fin false A.length (b_is_any [some (.tup ((rI n b).map .int)), some (.lst (ps.map .int)), none] A) := rfl
  have hc : anyL true (gN 2) yesT (mB (eqD false) (mB ixD (mV 0) (mV 2)) (mC (.int 1))) (ps.map .int) [some (.tup ((rI n b).map .int)), some (.lst (ps.map .int)), none] A = .ok (anyP ps b) A := by
    have e : anyP ps b = (ps.map D.int).any fun d => match d with | .int p => decide (b p.toNat = 1) | _ => false := by
      rw [List.any_map]
      rfl
    rw [e]
    refine anyL_pure fun d hd => ?_
    obtain ⟨p, hpm, rfl⟩ := List.mem_map.mp hd
    obtain ⟨p0, p1⟩ := hp p hpm
    refine ⟨_, rfl, ?_⟩
    have e : ixD A (.tup ((rI n b).map .int)) (.int p) = some (.int (b p.toNat)) := at_rI p0 p1
    simp only [bd, mB, mU, mN, rd, op, mV, mC, asB, mAndT, mOrT, mNotT, mAndV, mOrV, mNotV, mIf, aNil, aCons, mTup, mLs, frL, nwL, bS, sNil, sSeq, sRet, sEx, sIf, sSet, sSub, stO, sAsg, sPar, sAug, mCall, i2, b2, sz0, sz1, sz2, sz3, sz4, sz5, sz6, sz7, sz8, sz9, List.length_cons, List.length_nil, Nat.reduceAdd, List.getElem?_cons_zero, List.getElem?_cons_succ, List.set_cons_zero, List.set_cons_succ, if_true, if_false, decide_true, decide_false, Bool.true_and, Bool.and_true, Bool.false_eq_true, reduceCtorEq, ↓reduceIte, e, eqD_int, ng]
  have hx : gx_is_any_1 [some (.tup ((rI n b).map .int)), some (.lst (ps.map .int)), none] A = .ok (.bl (anyP ps b)) A := by
    unfold gx_is_any_1 mAny
    simp only [bd, mIt, seqB, mV, op, List.getElem?_cons_succ, List.getElem?_cons_zero, h0, wipeD, List.set_cons_succ, List.set_cons_zero, hc, ↓reduceIte]
  rw [e0, ← fin_bl (k := A.length) rfl]
  unfold b_is_any
  simp only [bd, mB, mU, mN, rd, op, mV, mC, asB, mAndT, mOrT, mNotT, mAndV, mOrV, mNotV, mIf, aNil, aCons, mTup, mLs, frL, nwL, bS, sNil, sSeq, sRet, sEx, sIf, sSet, sSub, stO, sAsg, sPar, sAug, mCall, i2, b2, sz0, sz1, sz2, sz3, sz4, sz5, sz6, sz7, sz8, sz9, List.length_cons, List.length_nil, Nat.reduceAdd, List.getElem?_cons_zero, List.getElem?_cons_succ, List.set_cons_zero, List.set_cons_succ, if_true, if_false, decide_true, decide_false, Bool.true_and, Bool.and_true, Bool.false_eq_true, reduceCtorEq, ↓reduceIte, hx]
theorem fuel4 : fuelW = 99996 + 1 + 1 + 1 + 1 := rfl
theorem whl_go {t : MT} {b : MS} {f : Nat} {ρ ρ' : Sm.Env} {A A1 A2 : Sto} (h1 : t ρ A = .ok true A1) (h2 : b ρ A1 = .nx ρ' A2) : whl t b (f + 1) ρ A = whl t b f ρ' A2 := by
  unfold whl
  simp only [bS, h1, h2]
  cases f <;> rfl
theorem whl_end {t : MT} {b : MS} {f : Nat} {ρ : Sm.Env} {A A1 : Sto} (h1 : t ρ A = .ok false A1) : whl t b (f + 1) ρ A = .nx ρ A1 := by
  unfold whl
  simp only [bS, h1]
theorem log_go {c r : Int} {f : Nat} (hr : 0 ≤ r ∧ r < 100) : whl (asB (mB fLt (mV 2) (mV 0))) wb_logarithm_1 (f + 1) [some (.int n), some (.int c), some (.int r)] A =
    if r < n then whl (asB (mB fLt (mV 2) (mV 0))) wb_logarithm_1 f [some (.int n), some (.int (c + 1)), some (.int (2 * r))] A else .nx [some (.int n), some (.int c), some (.int r)] A := by
  split
  · rename_i h
    refine whl_go (A1 := A) ?_ ?_
    · simp only [bd, mB, mU, mN, rd, op, mV, mC, asB, mAndT, mOrT, mNotT, mAndV, mOrV, mNotV, mIf, aNil, aCons, mTup, mLs, frL, nwL, bS, sNil, sSeq, sRet, sEx, sIf, sSet, sSub, stO, sAsg, sPar, sAug, mCall, i2, b2, sz0, sz1, sz2, sz3, sz4, sz5, sz6, sz7, sz8, sz9, List.length_cons, List.length_nil, Nat.reduceAdd, List.getElem?_cons_zero, List.getElem?_cons_succ, List.set_cons_zero, List.set_cons_succ, if_true, if_false, decide_true, decide_false, Bool.true_and, Bool.and_true, Bool.false_eq_true, reduceCtorEq, ↓reduceIte, decide_eq_true h]
    · unfold wb_logarithm_1
      simp only [bd, mB, mU, mN, rd, op, mV, mC, asB, mAndT, mOrT, mNotT, mAndV, mOrV, mNotV, mIf, aNil, aCons, mTup, mLs, frL, nwL, bS, sNil, sSeq, sRet, sEx, sIf, sSet, sSub, stO, sAsg, sPar, sAug, mCall, i2, b2, sz0, sz1, sz2, sz3, sz4, sz5, sz6, sz7, sz8, sz9, List.length_cons, List.length_nil, Nat.reduceAdd, List.getElem?_cons_zero, List.getElem?_cons_succ, List.set_cons_zero, List.set_cons_succ, if_true, if_false, decide_true, decide_false, Bool.true_and, Bool.and_true, Bool.false_eq_true, reduceCtorEq, ↓reduceIte, mul_small (x := 2) (y := r) (by decide) (by omega)]
  · rename_i h
    refine whl_end ?_
    simp only [bd, mB, mU, mN, rd, op, mV, mC, asB, mAndT, mOrT, mNotT, mAndV, mOrV, mNotV, mIf, aNil, aCons, mTup, mLs, frL, nwL, bS, sNil, sSeq, sRet, sEx, sIf, sSet, sSub, stO, sAsg, sPar, sAug, mCall, i2, b2, sz0, sz1, sz2, sz3, sz4, sz5, sz6, sz7, sz8, sz9, List.length_cons, List.length_nil, Nat.reduceAdd, List.getElem?_cons_zero, List.getElem?_cons_succ, List.set_cons_zero, List.set_cons_succ, if_true, if_false, decide_true, decide_false, Bool.true_and, Bool.and_true, Bool.false_eq_true, reduceCtorEq, ↓reduceIte, decide_eq_false h]
theorem log_ok (h1 : 1 ≤ n) (h8 : n ≤ 8) : m_logarithm [.int n] A = .ok (.int (lg n)) A := by
  have e0 : m_logarithm [.int n] A = fin false A.length (b_logarithm [some (.int n), none, none] A) := rfl
  have hw : wh_logarithm_2 [some (.int n), some (.int 0), some (.int 1)] A = .nx [some (.int n), some (.int (lg n)), some (.int ((2 ^ lg n : Nat) : Int))] A := by
    unfold wh_logarithm_2
    rw [fuel4, log_go (by omega)]
    unfold lg
    by_cases a1 : n ≤ 1
    · rw [if_neg (by omega)]; simp [a1]
    rw [if_pos (by omega), log_go (by omega), if_neg a1]
    by_cases a2 : n ≤ 2
    · rw [if_neg (by omega)]; simp [a2]
    rw [if_pos (by omega), log_go (by omega), if_neg a2]
    by_cases a3 : n ≤ 4
    · rw [if_neg (by omega)]; simp [a3]
    rw [if_pos (by omega), log_go (by omega), if_neg a3, if_neg (by omega)]
    rfl
  rw [e0, ← fin_int (n := A.length) rfl]
  unfold b_logarithm
  simp only [bd, mB, mU, mN, rd, op, mV, mC, asB, mAndT, mOrT, mNotT, mAndV, mOrV, mNotV, mIf, aNil, aCons, mTup, mLs, frL, nwL, bS, sNil, sSeq, sRet, sEx, sIf, sSet, sSub, stO, sAsg, sPar, sAug, mCall, i2, b2, sz0, sz1, sz2, sz3, sz4, sz5, sz6, sz7, sz8, sz9, List.length_cons, List.length_nil, Nat.reduceAdd, List.getElem?_cons_zero, List.getElem?_cons_succ, List.set_cons_zero, List.set_cons_succ, if_true, if_false, decide_true, decide_false, Bool.true_and, Bool.and_true, Bool.false_eq_true, reduceCtorEq, ↓reduceIte, hw]
theorem most_ok (h1 : 1 ≤ n) (h8 : n ≤ 8) {k : Int} (hk : k.natAbs < 2 ^ 30) : m_most_winnow [.int n, .int k] A = .ok (.int (2 * k * (lg n + 1) + 2)) A := by
  have e0 : m_most_winnow [.int n, .int k] A = fin false A.length (b_most_winnow [some (.int n), some (.int k)] A) := rfl
  have hlg : lg n ≤ 3 := by unfold lg; split <;> (try split) <;> (try split) <;> omega
  rw [e0, ← fin_int (n := A.length) rfl]
  unfold b_most_winnow
  simp only [bd, mB, mU, mN, rd, op, mV, mC, asB, mAndT, mOrT, mNotT, mAndV, mOrV, mNotV, mIf, aNil, aCons, mTup, mLs, frL, nwL, bS, sNil, sSeq, sRet, sEx, sIf, sSet, sSub, stO, sAsg, sPar, sAug, mCall, i2, b2, sz0, sz1, sz2, sz3, sz4, sz5, sz6, sz7, sz8, sz9, List.length_cons, List.length_nil, Nat.reduceAdd, List.getElem?_cons_zero, List.getElem?_cons_succ, List.set_cons_zero, List.set_cons_succ, if_true, if_false, decide_true, decide_false, Bool.true_and, Bool.and_true, Bool.false_eq_true, reduceCtorEq, ↓reduceIte, log_ok h1 h8, mul_small (x := 2) (y := k) (by decide) (by omega), mul_small (x := 2 * k) (y := lg n + 1) (by omega) (by omega)]
theorem rep_ok : repD [.int 1] (n : Int) = if n ≤ 8 then some ((rI n fun _ => 1).map D.int) else repD [.int 1] (n : Int) := by
  split
  · rename_i h
    have : n = 0 ∨ n = 1 ∨ n = 2 ∨ n = 3 ∨ n = 4 ∨ n = 5 ∨ n = 6 ∨ n = 7 ∨ n = 8 := by omega
    rcases this with rfl | rfl | rfl | rfl | rfl | rfl | rfl | rfl | rfl <;> rfl
  · rfl
theorem rep_go {ρ : Sm.Env} {ds : List D} (hr : repD [.int 1] (n : Int) = some ds) : op (repD [.int 1] (n : Int)) ρ A = .ok ds A := by
  rw [hr]; rfl
theorem rep_eval {ρ : Sm.Env} {i : Nat} (hn : n ≤ 8) (h : mV i ρ A = .ok (.int n) A) : mRepL (mLs (aCons (mC (.int 1)) aNil)) (mV i) ρ A = .ok ((rI n fun _ => 1).map D.int) A := by
  have hr : repD [.int 1] (n : Int) = some ((rI n fun _ => 1).map D.int) := by rw [rep_ok, if_pos hn]
  have h2 : mLs (aCons (mC (.int 1)) aNil) ρ A = .ok [.int 1] A := by simp only [bd, mB, mU, mN, rd, op, mV, mC, asB, mAndT, mOrT, mNotT, mAndV, mOrV, mNotV, mIf, aNil, aCons, mTup, mLs, frL, nwL, bS, sNil, sSeq, sRet, sEx, sIf, sSet, sSub, stO, sAsg, sPar, sAug, mCall, i2, b2, sz0, sz1, sz2, sz3, sz4, sz5, sz6, sz7, sz8, sz9, List.length_cons, List.length_nil, Nat.reduceAdd, List.getElem?_cons_zero, List.getElem?_cons_succ, List.set_cons_zero, List.set_cons_succ, if_true, if_false, decide_true, decide_false, Bool.true_and, Bool.and_true, Bool.false_eq_true, reduceCtorEq, ↓reduceIte]
  unfold mRepL
  simp only [bd, h2, h]
  exact rep_go hr
theorem init_ok (hn : n ≤ 8) (h : A[L]? = some (.ins "Winnow" [])) : m_Winnow__init [.ref L, .int n] A = .ok .non (A.set L (win n (fun _ => 1) 0 0)) := by
  have e0 : m_Winnow__init [.ref L, .int n] A = fin false A.length (b_Winnow__init [some (.ref L), some (.int n)] A) := rfl
  have hlt : L < A.length := (List.getElem?_eq_some_iff.mp h).1
  have hg : ∀ o : AO, (A.set L o)[L]? = some o := fun o => List.getElem?_set_self hlt
  have hr : mRepL (mLs (aCons (mC (.int 1)) aNil)) (mV 1) [some (.ref L), some (.int n)] (A.set L (.ins "Winnow" [("many", .int n)])) = .ok ((rI n fun _ => 1).map D.int) (A.set L (.ins "Winnow" [("many", .int n)])) := rep_eval hn rfl
  have p1 : putA ["Winnow"] "many" A (.ref L) (.int n) = some (A.set L (.ins "Winnow" [("many", .int n)])) := by
    unfold putA; simp only [h]; rfl
  have p2 : putA ["Winnow"] "weights" (A.set L (.ins "Winnow" [("many", .int n)])) (.ref L) (.lst ((rI n fun _ => 1).map D.int)) = some (A.set L (.ins "Winnow" [("many", .int n), ("weights", .lst ((rI n fun _ => 1).map D.int))])) := by
    unfold putA; simp only [hg, List.set_set]; rfl
  have p3 : putA ["Winnow"] "lacks" (A.set L (.ins "Winnow" [("many", .int n), ("weights", .lst ((rI n fun _ => 1).map D.int))])) (.ref L) (.int 0) = some (A.set L (.ins "Winnow" [("many", .int n), ("weights", .lst ((rI n fun _ => 1).map D.int)), ("lacks", .int 0)])) := by
    unfold putA; simp only [hg, List.set_set]; rfl
  have p4 : putA ["Winnow"] "spares" (A.set L (.ins "Winnow" [("many", .int n), ("weights", .lst ((rI n fun _ => 1).map D.int)), ("lacks", .int 0)])) (.ref L) (.int 0) = some (A.set L (win n (fun _ => 1) 0 0)) := by
    unfold putA win; simp only [hg, List.set_set]; rfl
  rw [e0]
  have hb : b_Winnow__init [some (.ref L), some (.int n)] A = .nx [some (.ref L), some (.int n)] (A.set L (win n (fun _ => 1) 0 0)) := by
    unfold b_Winnow__init
    unfold sSeq sFldD bS
    simp only [mV, mC, frL, bd, op, stO, List.getElem?_cons_zero, List.getElem?_cons_succ, p1]
    simp only [hr, p2, sSeq, bS, mV, mC, stO, List.getElem?_cons_zero, p3, p4]
  rw [hb]
  unfold fin trimA
  simp
theorem make_ok {ρ : Sm.Env} (hn : n ≤ 8) (h : mV 2 ρ A = .ok (.int n) A) : mMake "Winnow" m_Winnow__init (aCons (mV 2) aNil) ρ A = .ok (.ref A.length) (A ++ [win n (fun _ => 1) 0 0]) := by
  have hi := init_ok (A := A ++ [.ins "Winnow" []]) (L := A.length) hn (by simp)
  have e : (A ++ [AO.ins "Winnow" []]).set A.length (win n (fun _ => 1) 0 0) = A ++ [win n (fun _ => 1) 0 0] := by
    rw [List.set_append_right _ _ (Nat.le_refl _)]; simp
  rw [e] at hi
  unfold mMake aCons bd
  simp only [h, bd, aNil, op, hi]
  simp
end
/-! ### a turn -/
section
variable {A : Sto} {n t : Nat} {w b : Nat → Int} {l s : Int} {ps : List Int} {sc : D} {k x9 x10 x11 x12 x13 x14 x15 : Option D}
abbrev env (sc : D) (n : Nat) (ps : List Int) (k : Option D) (w : Nat → Int) (l s : Int) (x9 x10 x11 x12 x13 x14 x15 : Option D) : Sm.Env :=
  [some sc, some (.ref 2), some (.int n), some (.lst (ps.map .int)), k, some (.ref 3), some (.lst ((rI n w).map .int)), some (.int l), some (.int s), x9, x10, x11, x12, x13, x14, x15]
theorem rng_ok {ρ : Sm.Env} (hn : n ≤ 8) (h : mV 2 ρ A = .ok (.int n) A) : mItN rng1 (aCons (mV 2) aNil) ρ A = .ok (rD n fun i => .int (i : Nat)) A := by
  have hs : smI (n : Int) = true := decide_eq_true (by omega)
  unfold mItN aCons bd
  simp only [h, bd, aNil, op, rng1, hs, ↓reduceIte]
  rw [Int.toNat_natCast, rngD_map]
theorem list_rI {rs : List Int} (h : rs.length = n) : rs = rI n fun i => rs.getD i 0 := by
  refine List.ext_getElem? fun i => ?_
  by_cases hi : i < n
  · have h2 : i < rs.length := by omega
    simp [rI, hi, h2]
  · rw [List.getElem?_eq_none (by omega), List.getElem?_eq_none (by simp [rI]; omega)]
/-- the point -/
theorem pt_ok (hn : n ≤ 8) (hD : Dice A 2 t) (ht : t < 2 ^ 30) : ∃ (b : Nat → Int) (A' : Sto), lc_law_2 (env sc n ps k w l s x9 x10 x11 x12 x13 x14 x15) A = .ok ((rI n b).map .int) A' ∧ Dice A' 2 (t + 8) ∧ But 2 A A' := by
  obtain ⟨rs, A', e, hl, hr, hD', hb⟩ := rolls_ok (m := mCall m_law_roll (aCons (mV 1) (aCons (mC (.int 2)) aNil))) (F := D.int) (ρ := wipeD (env sc n ps k w l s x9 x10 x11 x12 x13 x14 x15) [4]) (d := 2) (j := 4) (q := 2)
    (fun x A t hD ht => call_roll rfl rfl hD ht (by decide) (by decide)) (rD n fun i => .int (i : Nat)) A t hD (by simp; omega)
  have hl' : rs.length = n := by rw [hl]; simp [rD]
  refine ⟨fun i => rs.getD i 0, A', ?_, hD'.mono (by simp; omega), hb⟩
  rw [← list_rI hl']
  unfold lc_law_2 mLc
  have hz : szOk (rD n fun i => D.int (i : Nat)).length = true := decide_eq_true (by simp; omega)
  simp only [bd, rng_ok (ρ := env sc n ps k w l s x9 x10 x11 x12 x13 x14 x15) hn rfl, e, hz, ↓reduceIte]
abbrev P (n : Nat) (b : Nat → Int) : Option D := some (.tup ((rI n b).map .int))
theorem ixP {p : Int} (p0 : 0 ≤ p) (p1 : p < n) : ixD A (.tup ((rI n b).map .int)) (.int p) = some (.int (b p.toNat)) := at_rI p0 p1
theorem ixW {p : Int} (p0 : 0 ≤ p) (p1 : p < n) : ixD A (.lst ((rI n b).map .int)) (.int p) = some (.int (b p.toNat)) := at_rI p0 p1
/-- [k for k in places if ..] -/
theorem lc_places {t : MT} {c : Int → Bool} {ρ : Sm.Env} (hρ : mV 3 ρ A = .ok (.lst (ps.map .int)) A) (hps : ps.length ≤ 100) (hl : ρ.length = 16) (h : ∀ p ∈ ps, t ((wipeD ρ [4]).set 4 (some (.int p))) A = .ok (c p) A) :
    mLc [4] (mIt seqB (mV 3)) (gN 4) t (mV 4) ρ A = .ok ((ps.filter c).map .int) A := by
  have e : (ps.map D.int).filterMap (fun d => match d with | .int p => if c p = true then some (D.int p) else none | _ => none) = (ps.filter c).map D.int := by
    rw [List.filterMap_map, ← List.filterMap_eq_filter, List.map_filterMap]
    congr 1
    funext p
    show (if c p = true then some (D.int p) else none) = _
    by_cases hc : c p = true
    · simp [hc, Option.guard]
    · simp [hc, Option.guard]
  rw [← e]
  refine mLc_pure (A1 := A) ?_ (by simp; omega) fun d hd => ?_
  · unfold mIt bd
    simp only [hρ, op, seqB]
  · obtain ⟨p, hp, rfl⟩ := List.mem_map.mp hd
    refine ⟨_, rfl, ?_⟩
    have hv : mV 4 ((wipeD ρ [4]).set 4 (some (.int p))) A = .ok (.int p) A := by
      unfold mV
      have : ((wipeD ρ [4]).set 4 (some (D.int p)))[4]? = some (some (.int p)) := List.getElem?_set_self (by simp [wipeD, hl])
      rw [this]
    cases hc : c p with
    | true => exact .inr ⟨.int p, by simp [hc], by rw [h p hp, hc], hv⟩
    | false => exact .inl ⟨by simp [hc], by rw [h p hp, hc]⟩
theorem law3 (hps : ∀ p ∈ ps, 0 ≤ p ∧ p < n) (h2 : ps.length ≤ 2) : lc_law_3 (env sc n ps k w l s x9 (P n b) x11 x12 x13 x14 x15) A = .ok ((ps.filter fun p => decide (b p.toNat = 1)).map .int) A := by
  unfold lc_law_3
  refine lc_places rfl (by omega) rfl fun p hp => ?_
  obtain ⟨p0, p1⟩ := hps p hp
  simp only [bd, mB, mU, mN, rd, op, mV, mC, asB, mAndT, mOrT, mNotT, mAndV, mOrV, mNotV, mIf, aNil, aCons, mTup, mLs, frL, nwL, bS, sNil, sSeq, sRet, sEx, sIf, sSet, sSub, stO, sAsg, sPar, sAug, mCall, i2, b2, sz0, sz1, sz2, sz3, sz4, sz5, sz6, sz7, sz8, sz9, List.length_cons, List.length_nil, Nat.reduceAdd, List.getElem?_cons_zero, List.getElem?_cons_succ, List.set_cons_zero, List.set_cons_succ, if_true, if_false, decide_true, decide_false, Bool.true_and, Bool.and_true, Bool.false_eq_true, reduceCtorEq, ↓reduceIte, wipeD, ixP p0 p1, eqD_int, ng]
theorem law7 (hps : ∀ p ∈ ps, 0 ≤ p ∧ p < n) (h2 : ps.length ≤ 2) (hw : ∀ p ∈ ps, 1 ≤ w p.toNat ∧ w p.toNat ≤ n) : lc_law_7 (env sc n ps k w l s x9 x10 x11 x12 x13 x14 x15) A = .ok [] A := by
  have e := lc_places (A := A) (c := fun _ => false) (t := mOrT (asB (mB fLt (mB ixD (mV 6) (mV 4)) (mC (.int 1)))) (asB (mB fGt (mB ixD (mV 6) (mV 4)) (mV 2)))) (ρ := env sc n ps k w l s x9 x10 x11 x12 x13 x14 x15) rfl (by omega) rfl fun p hp => by
    obtain ⟨p0, p1⟩ := hps p hp
    obtain ⟨w0, w1⟩ := hw p hp
    have k1 : decide (w p.toNat < 1) = false := by simp; omega
    have k2 : decide (w p.toNat > n) = false := by simp; omega
    simp only [bd, mB, mU, mN, rd, op, mV, mC, asB, mAndT, mOrT, mNotT, mAndV, mOrV, mNotV, mIf, aNil, aCons, mTup, mLs, frL, nwL, bS, sNil, sSeq, sRet, sEx, sIf, sSet, sSub, stO, sAsg, sPar, sAug, mCall, i2, b2, sz0, sz1, sz2, sz3, sz4, sz5, sz6, sz7, sz8, sz9, List.length_cons, List.length_nil, Nat.reduceAdd, List.getElem?_cons_zero, List.getElem?_cons_succ, List.set_cons_zero, List.set_cons_succ, if_true, if_false, decide_true, decide_false, Bool.true_and, Bool.and_true, Bool.false_eq_true, reduceCtorEq, ↓reduceIte, wipeD, ixW p0 p1, k1, k2]
  have : ps.filter (fun _ => false) = [] := by simp
  rw [this] at e
  exact e
/-- [.. for k in range(many) if ..] -/
theorem lc_range {t : MT} {m : ME} {f : Nat → Option Int} {ρ : Sm.Env} (hn : n ≤ 8) (hρ : mV 2 ρ A = .ok (.int n) A) (h : ∀ i, i < n → (f i = none ∧ t ((wipeD ρ [4]).set 4 (some (.int (i : Nat)))) A = .ok false A) ∨
    ∃ y, f i = some y ∧ t ((wipeD ρ [4]).set 4 (some (.int (i : Nat)))) A = .ok true A ∧ m ((wipeD ρ [4]).set 4 (some (.int (i : Nat)))) A = .ok (.int y) A) :
    mLc [4] (mItN rng1 (aCons (mV 2) aNil)) (gN 4) t m ρ A = .ok (((List.range n).filterMap f).map .int) A := by
  have e : (rD n fun i => .int (i : Nat)).filterMap (fun d => match d with | .int p => (f p.toNat).map D.int | _ => none) = ((List.range n).filterMap f).map D.int := by
    unfold rD
    rw [List.filterMap_map, List.map_filterMap]
    rfl
  rw [← e]
  refine mLc_pure (rng_ok hn hρ) (by simp; omega) fun d hd => ?_
  obtain ⟨i, hi, rfl⟩ := mem_rD hd
  refine ⟨_, rfl, ?_⟩
  rcases h i hi with ⟨e1, e2⟩ | ⟨y, e1, e2, e3⟩
  · exact .inl ⟨by simp [e1], e2⟩
  · exact .inr ⟨.int y, by simp [e1], e2, e3⟩
theorem law4 (hn : n ≤ 8) : lc_law_4 (env sc n ps k w l s x9 (P n b) x11 x12 x13 x14 x15) A = .ok ((onL n w b).map .int) A := by
  unfold lc_law_4
  refine lc_range hn rfl fun i hi => ?_
  have hp : ixD A (.tup ((rI n b).map .int)) (.int (i : Nat)) = some (.int (b i)) := by have := ixP (A := A) (b := b) (n := n) (p := (i : Int)) (by omega) (by omega); rwa [Int.toNat_natCast] at this
  have hq : ixD A (.lst ((rI n w).map .int)) (.int (i : Nat)) = some (.int (w i)) := by have := ixW (A := A) (b := w) (n := n) (p := (i : Int)) (by omega) (by omega); rwa [Int.toNat_natCast] at this
  by_cases hb : b i = 1
  · refine .inr ⟨w i, by simp [hb], ?_, ?_⟩
    · simp only [bd, mB, mU, mN, rd, op, mV, mC, asB, mAndT, mOrT, mNotT, mAndV, mOrV, mNotV, mIf, aNil, aCons, mTup, mLs, frL, nwL, bS, sNil, sSeq, sRet, sEx, sIf, sSet, sSub, stO, sAsg, sPar, sAug, mCall, i2, b2, sz0, sz1, sz2, sz3, sz4, sz5, sz6, sz7, sz8, sz9, List.length_cons, List.length_nil, Nat.reduceAdd, List.getElem?_cons_zero, List.getElem?_cons_succ, List.set_cons_zero, List.set_cons_succ, if_true, if_false, decide_true, decide_false, Bool.true_and, Bool.and_true, Bool.false_eq_true, reduceCtorEq, ↓reduceIte, wipeD, hp, eqD_int, ng, decide_eq_true hb]
    · simp only [bd, mB, mU, mN, rd, op, mV, mC, asB, mAndT, mOrT, mNotT, mAndV, mOrV, mNotV, mIf, aNil, aCons, mTup, mLs, frL, nwL, bS, sNil, sSeq, sRet, sEx, sIf, sSet, sSub, stO, sAsg, sPar, sAug, mCall, i2, b2, sz0, sz1, sz2, sz3, sz4, sz5, sz6, sz7, sz8, sz9, List.length_cons, List.length_nil, Nat.reduceAdd, List.getElem?_cons_zero, List.getElem?_cons_succ, List.set_cons_zero, List.set_cons_succ, if_true, if_false, decide_true, decide_false, Bool.true_and, Bool.and_true, Bool.false_eq_true, reduceCtorEq, ↓reduceIte, wipeD, hq]
  · refine .inl ⟨by simp [hb], ?_⟩
    simp only [bd, mB, mU, mN, rd, op, mV, mC, asB, mAndT, mOrT, mNotT, mAndV, mOrV, mNotV, mIf, aNil, aCons, mTup, mLs, frL, nwL, bS, sNil, sSeq, sRet, sEx, sIf, sSet, sSub, stO, sAsg, sPar, sAug, mCall, i2, b2, sz0, sz1, sz2, sz3, sz4, sz5, sz6, sz7, sz8, sz9, List.length_cons, List.length_nil, Nat.reduceAdd, List.getElem?_cons_zero, List.getElem?_cons_succ, List.set_cons_zero, List.set_cons_succ, if_true, if_false, decide_true, decide_false, Bool.true_and, Bool.and_true, Bool.false_eq_true, reduceCtorEq, ↓reduceIte, wipeD, hp, eqD_int, ng, decide_eq_false hb]
theorem range_map {n : Nat} {g : Nat → Int} : (List.range n).filterMap (fun i => some (g i)) = rI n g := by simp [rI]
theorem law5 (hn : n ≤ 8) (hw : ∀ i < n, 0 ≤ w i ∧ w i ≤ n) : lc_law_5 (env sc n ps k w l s x9 (P n b) x11 x12 x13 x14 x15) A = .ok ((rI n (dbl w b)).map .int) A := by
  unfold lc_law_5
  rw [← range_map]
  refine lc_range hn rfl fun i hi => .inr ⟨dbl w b i, rfl, rfl, ?_⟩
  obtain ⟨w0, w1⟩ := hw i hi
  have hp : ixD A (.tup ((rI n b).map .int)) (.int (i : Nat)) = some (.int (b i)) := by have := ixP (A := A) (b := b) (n := n) (p := (i : Int)) (by omega) (by omega); rwa [Int.toNat_natCast] at this
  have hq : ixD A (.lst ((rI n w).map .int)) (.int (i : Nat)) = some (.int (w i)) := by have := ixW (A := A) (b := w) (n := n) (p := (i : Int)) (by omega) (by omega); rwa [Int.toNat_natCast] at this
  unfold dbl
  by_cases hb : b i = 1
  · simp only [bd, mB, mU, mN, rd, op, mV, mC, asB, mAndT, mOrT, mNotT, mAndV, mOrV, mNotV, mIf, aNil, aCons, mTup, mLs, frL, nwL, bS, sNil, sSeq, sRet, sEx, sIf, sSet, sSub, stO, sAsg, sPar, sAug, mCall, i2, b2, sz0, sz1, sz2, sz3, sz4, sz5, sz6, sz7, sz8, sz9, List.length_cons, List.length_nil, Nat.reduceAdd, List.getElem?_cons_zero, List.getElem?_cons_succ, List.set_cons_zero, List.set_cons_succ, if_true, if_false, decide_true, decide_false, Bool.true_and, Bool.and_true, Bool.false_eq_true, reduceCtorEq, ↓reduceIte, wipeD, hp, hq, eqD_int, ng, decide_eq_true hb, mul_small (x := 2) (y := w i) (by decide) (by omega), if_pos hb]
  · simp only [bd, mB, mU, mN, rd, op, mV, mC, asB, mAndT, mOrT, mNotT, mAndV, mOrV, mNotV, mIf, aNil, aCons, mTup, mLs, frL, nwL, bS, sNil, sSeq, sRet, sEx, sIf, sSet, sSub, stO, sAsg, sPar, sAug, mCall, i2, b2, sz0, sz1, sz2, sz3, sz4, sz5, sz6, sz7, sz8, sz9, List.length_cons, List.length_nil, Nat.reduceAdd, List.getElem?_cons_zero, List.getElem?_cons_succ, List.set_cons_zero, List.set_cons_succ, if_true, if_false, decide_true, decide_false, Bool.true_and, Bool.and_true, Bool.false_eq_true, reduceCtorEq, ↓reduceIte, wipeD, hp, hq, eqD_int, ng, decide_eq_false hb, if_neg hb]
theorem law6 (hn : n ≤ 8) : lc_law_6 (env sc n ps k w l s x9 (P n b) x11 x12 x13 x14 x15) A = .ok ((rI n (zer w b)).map .int) A := by
  unfold lc_law_6
  rw [← range_map]
  refine lc_range hn rfl fun i hi => .inr ⟨zer w b i, rfl, rfl, ?_⟩
  have hp : ixD A (.tup ((rI n b).map .int)) (.int (i : Nat)) = some (.int (b i)) := by have := ixP (A := A) (b := b) (n := n) (p := (i : Int)) (by omega) (by omega); rwa [Int.toNat_natCast] at this
  have hq : ixD A (.lst ((rI n w).map .int)) (.int (i : Nat)) = some (.int (w i)) := by have := ixW (A := A) (b := w) (n := n) (p := (i : Int)) (by omega) (by omega); rwa [Int.toNat_natCast] at this
  unfold zer
  by_cases hb : b i = 1
  · simp only [bd, mB, mU, mN, rd, op, mV, mC, asB, mAndT, mOrT, mNotT, mAndV, mOrV, mNotV, mIf, aNil, aCons, mTup, mLs, frL, nwL, bS, sNil, sSeq, sRet, sEx, sIf, sSet, sSub, stO, sAsg, sPar, sAug, mCall, i2, b2, sz0, sz1, sz2, sz3, sz4, sz5, sz6, sz7, sz8, sz9, List.length_cons, List.length_nil, Nat.reduceAdd, List.getElem?_cons_zero, List.getElem?_cons_succ, List.set_cons_zero, List.set_cons_succ, if_true, if_false, decide_true, decide_false, Bool.true_and, Bool.and_true, Bool.false_eq_true, reduceCtorEq, ↓reduceIte, wipeD, hp, hq, eqD_int, ng, decide_eq_true hb, if_pos hb]
  · simp only [bd, mB, mU, mN, rd, op, mV, mC, asB, mAndT, mOrT, mNotT, mAndV, mOrV, mNotV, mIf, aNil, aCons, mTup, mLs, frL, nwL, bS, sNil, sSeq, sRet, sEx, sIf, sSet, sSub, stO, sAsg, sPar, sAug, mCall, i2, b2, sz0, sz1, sz2, sz3, sz4, sz5, sz6, sz7, sz8, sz9, List.length_cons, List.length_nil, Nat.reduceAdd, List.getElem?_cons_zero, List.getElem?_cons_succ, List.set_cons_zero, List.set_cons_succ, if_true, if_false, decide_true, decide_false, Bool.true_and, Bool.and_true, Bool.false_eq_true, reduceCtorEq, ↓reduceIte, wipeD, hp, hq, eqD_int, ng, decide_eq_false hb, if_neg hb]
theorem law8 (hn : n ≤ 8) (hw : ∀ i < n, 0 ≤ w i) : lc_law_8 (env sc n ps k w l s x9 x10 x11 x12 x13 x14 x15) A = .ok ((nzI n w).map .int) A := by
  unfold lc_law_8 nzI
  refine lc_range hn rfl fun i hi => ?_
  have w0 := hw i hi
  have hq : ixD A (.lst ((rI n w).map .int)) (.int (i : Nat)) = some (.int (w i)) := by have := ixW (A := A) (b := w) (n := n) (p := (i : Int)) (by omega) (by omega); rwa [Int.toNat_natCast] at this
  by_cases hz : w i = 0
  · refine .inl ⟨by simp [hz], ?_⟩
    have k1 : decide (w i > 0) = false := by simp; omega
    simp only [bd, mB, mU, mN, rd, op, mV, mC, asB, mAndT, mOrT, mNotT, mAndV, mOrV, mNotV, mIf, aNil, aCons, mTup, mLs, frL, nwL, bS, sNil, sSeq, sRet, sEx, sIf, sSet, sSub, stO, sAsg, sPar, sAug, mCall, i2, b2, sz0, sz1, sz2, sz3, sz4, sz5, sz6, sz7, sz8, sz9, List.length_cons, List.length_nil, Nat.reduceAdd, List.getElem?_cons_zero, List.getElem?_cons_succ, List.set_cons_zero, List.set_cons_succ, if_true, if_false, decide_true, decide_false, Bool.true_and, Bool.and_true, Bool.false_eq_true, reduceCtorEq, ↓reduceIte, wipeD, hq, k1]
  · refine .inr ⟨(i : Int), by simp [hz], ?_, by simp only [bd, mB, mU, mN, rd, op, mV, mC, asB, mAndT, mOrT, mNotT, mAndV, mOrV, mNotV, mIf, aNil, aCons, mTup, mLs, frL, nwL, bS, sNil, sSeq, sRet, sEx, sIf, sSet, sSub, stO, sAsg, sPar, sAug, mCall, i2, b2, sz0, sz1, sz2, sz3, sz4, sz5, sz6, sz7, sz8, sz9, List.length_cons, List.length_nil, Nat.reduceAdd, List.getElem?_cons_zero, List.getElem?_cons_succ, List.set_cons_zero, List.set_cons_succ, if_true, if_false, decide_true, decide_false, Bool.true_and, Bool.and_true, Bool.false_eq_true, reduceCtorEq, ↓reduceIte, wipeD]⟩
    have k1 : decide (w i > 0) = true := by simp; omega
    simp only [bd, mB, mU, mN, rd, op, mV, mC, asB, mAndT, mOrT, mNotT, mAndV, mOrV, mNotV, mIf, aNil, aCons, mTup, mLs, frL, nwL, bS, sNil, sSeq, sRet, sEx, sIf, sSet, sSub, stO, sAsg, sPar, sAug, mCall, i2, b2, sz0, sz1, sz2, sz3, sz4, sz5, sz6, sz7, sz8, sz9, List.length_cons, List.length_nil, Nat.reduceAdd, List.getElem?_cons_zero, List.getElem?_cons_succ, List.set_cons_zero, List.set_cons_succ, if_true, if_false, decide_true, decide_false, Bool.true_and, Bool.and_true, Bool.false_eq_true, reduceCtorEq, ↓reduceIte, wipeD, hq, k1]
end
structure St (A : Sto) (n : Nat) (w : Nat → Int) (l s : Int) (t : Nat) : Prop where
  len : A.length = 4
  g : A[0]? = some (.tabG 0)
  lm : A[1]? = some (.tabL 1 "law.<locals>.<lambda>")
  dice : Dice A 2 t
  win : A[3]? = some (win n w l s)
theorem seq_nx {m q : MS} {ρ ρ' : Sm.Env} {A A' : Sto} (h : m ρ A = .nx ρ' A') : sSeq m q ρ A = q ρ' A' := by
  unfold sSeq
  simp only [h]
theorem eqD_e {A : Sto} {fs : List Int} (h : fs.length < 2999) : eqD true A (.lst (fs.map .int)) (.lst []) = some (.bl (!decide (fs = []))) := eqD_ints (ms := []) h (by decide)
theorem filter_any {c : Int → Bool} : ∀ ps : List Int, (!decide (ps.filter c = [])) = ps.any c
  | [] => rfl
  | p :: ps => by
    have ih := filter_any (c := c) ps
    rw [List.any_cons, ← ih, List.filter_cons]
    cases c p <;> simp
theorem eqD_t2 {neg : Bool} {A : Sto} {a b c d : Int} : eqD neg A (.tup [.int a, .int b]) (.tup [.int c, .int d]) = some (.bl (ng neg (decide (([a, b] : List Int) = [c, d])))) := eqD_tints (ns := [a, b]) (ms := [c, d]) (by simp) (by simp)
section
variable {A : Sto} {n t : Nat} {w : Nat → Int} {l s : Int} {ps : List Int} {sc : D} {k x9 x10 x11 x12 x13 x14 x15 : Option D}
theorem rI_lt {n : Nat} {w : Nat → Int} (hn : n ≤ 8) : (rI n w).length < 2999 := by rw [rI_len]; omega
theorem nzI_lt {n : Nat} {w : Nat → Int} (hn : n ≤ 8) : (nzI n w).length < 2999 := by
  have : (nzI n w).length ≤ (List.range n).length := List.length_filterMap_le _ _
  rw [List.length_range] at this
  omega
theorem turn_ok (hn : n ≤ 8) (hps : ∀ p ∈ ps, 0 ≤ p ∧ p < n) (h2 : ps.length ≤ 2) (I : MInv n ps w l s) (hS : St A n w l s t) (ht : t < 2 ^ 30) :
    ∃ (w' : Nat → Int) (l' s' : Int) (y10 y11 y12 y13 : Option D) (A' : Sto), fb_law_9 (env sc n ps k w l s x9 x10 x11 x12 x13 x14 x15) A = .nx (env sc n ps k w' l' s' x9 y10 y11 y12 y13 x14 x15) A' ∧ MInv n ps w' l' s' ∧ St A' n w' l' s' (t + 8) := by
  obtain ⟨b, A1, e2, hD1, b1⟩ := pt_ok (sc := sc) (ps := ps) (k := k) (w := w) (l := l) (s := s) (x9 := x9) (x10 := x10) (x11 := x11) (x12 := x12) (x13 := x13) (x14 := x14) (x15 := x15) hn hS.dice ht
  have hw := I.bd
  have hw3 : A1[3]? = some (win n w l s) := (b1.at_ 3 (by decide)).trans hS.win
  have h03 : A1[0]? = some (.tabG 0) := (b1.at_ 0 (by decide)).trans hS.g
  have hlen1 : A1.length = 4 := b1.len.trans hS.len
  have I' := I.step (b := b) hps
  have hsee : anyP ps b = true → ∃ i, i < n ∧ b i = 1 ∧ w i ≠ 0 := fun ha => by
    unfold anyP at ha
    obtain ⟨p, h1, h3⟩ := List.any_eq_true.mp ha
    obtain ⟨p0, p1⟩ := hps p h1
    obtain ⟨e, he, _⟩ := I.ex
    refine ⟨p.toNat, by omega, of_decide_eq_true h3, ?_⟩
    rw [(he p h1).1]
    have : (0 : Int) < 2 ^ e p.toNat := Int.pow_pos (by decide)
    omega
  have hsee' := see_ok (b := b) hn hw hw3 hsee
  have hgs := guess_ok (b := b) hn hw hw3
  obtain ⟨S0, S1⟩ := S_le (b := b) hw
  have S2 : S n w b ≤ 64 := Int.le_trans S1 (by
    have : (n : Int) * n ≤ 8 * 8 := Int.mul_le_mul (by omega) (by omega) (by omega) (by omega)
    omega)
  generalize hA2 : A1.set 3 (win n (upW n w b (anyP ps b)) (l + upL n w b (anyP ps b)) (s + upS n w b (anyP ps b))) = A2 at hsee'
  have hlt : 3 < A1.length := by omega
  have hw4 : A2[3]? = some (win n (upW n w b (anyP ps b)) (l + upL n w b (anyP ps b)) (s + upS n w b (anyP ps b))) := by rw [← hA2]; exact List.getElem?_set_self hlt
  have St2 : St A2 n (upW n w b (anyP ps b)) (l + upL n w b (anyP ps b)) (s + upS n w b (anyP ps b)) (t + 8) := by
    refine ⟨by rw [← hA2]; simp [hlen1], ?_, ?_, ?_, hw4⟩
    · rw [← hA2, List.getElem?_set_ne (by decide)]; exact h03
    · rw [← hA2, List.getElem?_set_ne (by decide)]; exact (b1.at_ 1 (by decide)).trans hS.lm
    · obtain ⟨c0, c1, c2, a1, a2, a3⟩ := hD1
      exact ⟨c0, c1, c2, by rw [← hA2, List.getElem?_set_ne (by decide)]; exact a1, a2, a3⟩
  refine ⟨_, _, _, P n b, some (.bl (anyP ps b)), some (.int (S n w b)), some (.bl (gss n w b)), A2, ?_, I', St2⟩
  have g10 : sSet 10 (mN dTup (aCons (frL lc_law_2) aNil)) (env sc n ps k w l s x9 x10 x11 x12 x13 x14 x15) A = .nx (env sc n ps k w l s x9 (P n b) x11 x12 x13 x14 x15) A1 := by
    simp only [bd, mB, mU, mN, rd, op, mV, mC, asB, mAndT, mOrT, mNotT, mAndV, mOrV, mNotV, mIf, aNil, aCons, mTup, mLs, frL, nwL, bS, sNil, sSeq, sRet, sEx, sIf, sSet, sSub, stO, sAsg, sPar, sAug, mCall, i2, b2, sz0, sz1, sz2, sz3, sz4, sz5, sz6, sz7, sz8, sz9, List.length_cons, List.length_nil, Nat.reduceAdd, List.getElem?_cons_zero, List.getElem?_cons_succ, List.set_cons_zero, List.set_cons_succ, if_true, if_false, decide_true, decide_false, Bool.true_and, Bool.and_true, Bool.false_eq_true, reduceCtorEq, ↓reduceIte, mN, dTup, dSeq, seqOf, lstOf, e2, Option.map_some]
  have g11 : sSet 11 (mB (eqD true) (frL lc_law_3) (frL (mLs aNil))) (env sc n ps k w l s x9 (P n b) x11 x12 x13 x14 x15) A1 = .nx (env sc n ps k w l s x9 (P n b) (some (.bl (anyP ps b))) x12 x13 x14 x15) A1 := by
    have hf : ((ps.filter fun p => decide (b p.toNat = 1))).length < 2999 := Nat.lt_of_le_of_lt (List.length_filter_le _ _) (by omega)
    have e3 := law3 (A := A1) (b := b) (sc := sc) (k := k) (w := w) (l := l) (s := s) (x9 := x9) (x11 := x11) (x12 := x12) (x13 := x13) (x14 := x14) (x15 := x15) hps h2
    simp only [bd, mB, mU, mN, rd, op, mV, mC, asB, mAndT, mOrT, mNotT, mAndV, mOrV, mNotV, mIf, aNil, aCons, mTup, mLs, frL, nwL, bS, sNil, sSeq, sRet, sEx, sIf, sSet, sSub, stO, sAsg, sPar, sAug, mCall, i2, b2, sz0, sz1, sz2, sz3, sz4, sz5, sz6, sz7, sz8, sz9, List.length_cons, List.length_nil, Nat.reduceAdd, List.getElem?_cons_zero, List.getElem?_cons_succ, List.set_cons_zero, List.set_cons_succ, if_true, if_false, decide_true, decide_false, Bool.true_and, Bool.and_true, Bool.false_eq_true, reduceCtorEq, ↓reduceIte, e3, eqD_e hf, filter_any]
    rfl
  have g12 : sSet 12 (mN (fInts fun ns => some ns.sum) (aCons (frL lc_law_4) aNil)) (env sc n ps k w l s x9 (P n b) (some (.bl (anyP ps b))) x12 x13 x14 x15) A1 = .nx (env sc n ps k w l s x9 (P n b) (some (.bl (anyP ps b))) (some (.int (S n w b))) x13 x14 x15) A1 := by
    have e4 := law4 (A := A1) (b := b) (sc := sc) (k := k) (w := w) (l := l) (s := s) (ps := ps) (x9 := x9) (x11 := some (.bl (anyP ps b))) (x12 := x12) (x13 := x13) (x14 := x14) (x15 := x15) hn
    simp only [bd, mB, mU, mN, rd, op, mV, mC, asB, mAndT, mOrT, mNotT, mAndV, mOrV, mNotV, mIf, aNil, aCons, mTup, mLs, frL, nwL, bS, sNil, sSeq, sRet, sEx, sIf, sSet, sSub, stO, sAsg, sPar, sAug, mCall, i2, b2, sz0, sz1, sz2, sz3, sz4, sz5, sz6, sz7, sz8, sz9, List.length_cons, List.length_nil, Nat.reduceAdd, List.getElem?_cons_zero, List.getElem?_cons_succ, List.set_cons_zero, List.set_cons_succ, if_true, if_false, decide_true, decide_false, Bool.true_and, Bool.and_true, Bool.false_eq_true, reduceCtorEq, ↓reduceIte, mN, fInts, lstOf, intsOf_map, Option.bind_some, Option.map_some, e4]
    rfl
  have hm : decide ((2 : Int).natAbs.log2 + (S n w b).natAbs.log2 < 100000000) = true := mul_small (by decide) (by omega)
  have g13 : sSet 13 (mAndV (mB fGe (mB fMul (mC (.int 2)) (mV 12)) (mV 2)) (mB fGt (mV 12) (mC (.int 0)))) (env sc n ps k w l s x9 (P n b) (some (.bl (anyP ps b))) (some (.int (S n w b))) x13 x14 x15) A1 = .nx (env sc n ps k w l s x9 (P n b) (some (.bl (anyP ps b))) (some (.int (S n w b))) (some (.bl (gss n w b))) x14 x15) A1 := by
    by_cases hc : 2 * S n w b ≥ n
    · have z2 : gss n w b = decide (S n w b > 0) := by
        unfold gss
        simp only [hc, decide_true, Bool.and_true]
        exact decide_eq_decide.mpr (by omega)
      simp only [bd, mB, mU, mN, rd, op, mV, mC, asB, mAndT, mOrT, mNotT, mAndV, mOrV, mNotV, mIf, aNil, aCons, mTup, mLs, frL, nwL, bS, sNil, sSeq, sRet, sEx, sIf, sSet, sSub, stO, sAsg, sPar, sAug, mCall, i2, b2, sz0, sz1, sz2, sz3, sz4, sz5, sz6, sz7, sz8, sz9, List.length_cons, List.length_nil, Nat.reduceAdd, List.getElem?_cons_zero, List.getElem?_cons_succ, List.set_cons_zero, List.set_cons_succ, if_true, if_false, decide_true, decide_false, Bool.true_and, Bool.and_true, Bool.false_eq_true, reduceCtorEq, ↓reduceIte, hm, decide_eq_true hc, z2]
    · have z2 : gss n w b = false := by unfold gss; simp [hc]
      simp only [bd, mB, mU, mN, rd, op, mV, mC, asB, mAndT, mOrT, mNotT, mAndV, mOrV, mNotV, mIf, aNil, aCons, mTup, mLs, frL, nwL, bS, sNil, sSeq, sRet, sEx, sIf, sSet, sSub, stO, sAsg, sPar, sAug, mCall, i2, b2, sz0, sz1, sz2, sz3, sz4, sz5, sz6, sz7, sz8, sz9, List.length_cons, List.length_nil, Nat.reduceAdd, List.getElem?_cons_zero, List.getElem?_cons_succ, List.set_cons_zero, List.set_cons_succ, if_true, if_false, decide_true, decide_false, Bool.true_and, Bool.and_true, Bool.false_eq_true, reduceCtorEq, ↓reduceIte, hm, decide_eq_false hc, z2]
  have g5 : sIf (mOrT (asB (mB (eqD true) (mCall m_is_any (aCons (mV 10) (aCons (mV 3) aNil))) (mV 11))) (mOrT (asB (mB (eqD true) (mMeth [("Winnow", m_Winnow__guess)] "guess" (mV 5) (aCons (mV 10) aNil)) (mV 13))) (asB (mB (eqD true) (mMeth [("Winnow", m_Winnow__see)] "see" (mV 5) (aCons (mV 10) (aCons (mV 11) aNil))) (mV 13))))) (sRet (mC (.bl false))) sNil (env sc n ps k w l s x9 (P n b) (some (.bl (anyP ps b))) (some (.int (S n w b))) (some (.bl (gss n w b))) x14 x15) A1 =
      .nx (env sc n ps k w l s x9 (P n b) (some (.bl (anyP ps b))) (some (.int (S n w b))) (some (.bl (gss n w b))) x14 x15) A2 := by
    simp only [bd, mB, mU, mN, rd, op, mV, mC, asB, mAndT, mOrT, mNotT, mAndV, mOrV, mNotV, mIf, aNil, aCons, mTup, mLs, frL, nwL, bS, sNil, sSeq, sRet, sEx, sIf, sSet, sSub, stO, sAsg, sPar, sAug, mCall, i2, b2, sz0, sz1, sz2, sz3, sz4, sz5, sz6, sz7, sz8, sz9, List.length_cons, List.length_nil, Nat.reduceAdd, List.getElem?_cons_zero, List.getElem?_cons_succ, List.set_cons_zero, List.set_cons_succ, if_true, if_false, decide_true, decide_false, Bool.true_and, Bool.and_true, Bool.false_eq_true, reduceCtorEq, ↓reduceIte, mMeth, m_guess hw3, m_see hw3, is_any_ok hps h03, hgs, hsee', eqD_bl, ng, Bool.not_true]
  have g8 : ∀ (w' : Nat → Int) (l' s' : Int) (y10 y11 y12 y13 : Option D), A2[3]? = some (win n w' l' s') → sIf (mOrT (asB (mB (eqD true) (mFldC ["Winnow"] (mV 5) "weights") (mV 6))) (asB (mB (eqD true) (mTup (aCons (mFldC ["Winnow"] (mV 5) "lacks") (aCons (mFldC ["Winnow"] (mV 5) "spares") aNil))) (mTup (aCons (mV 7) (aCons (mV 8) aNil)))))) (sRet (mC (.bl false))) sNil (env sc n ps k w' l' s' x9 y10 y11 y12 y13 x14 x15) A2 = .nx (env sc n ps k w' l' s' x9 y10 y11 y12 y13 x14 x15) A2 := fun w' l' s' y10 y11 y12 y13 hA => by
    have f1 := f_weights (m := mV 5) (ρ := env sc n ps k w' l' s' x9 y10 y11 y12 y13 x14 x15) hA rfl
    have f2 := f_lacks (m := mV 5) (ρ := env sc n ps k w' l' s' x9 y10 y11 y12 y13 x14 x15) hA rfl
    have f3 := f_spares (m := mV 5) (ρ := env sc n ps k w' l' s' x9 y10 y11 y12 y13 x14 x15) hA rfl
    simp only [bd, mB, mU, mN, rd, op, mV, mC, asB, mAndT, mOrT, mNotT, mAndV, mOrV, mNotV, mIf, aNil, aCons, mTup, mLs, frL, nwL, bS, sNil, sSeq, sRet, sEx, sIf, sSet, sSub, stO, sAsg, sPar, sAug, mCall, i2, b2, sz0, sz1, sz2, sz3, sz4, sz5, sz6, sz7, sz8, sz9, List.length_cons, List.length_nil, Nat.reduceAdd, List.getElem?_cons_zero, List.getElem?_cons_succ, List.set_cons_zero, List.set_cons_succ, if_true, if_false, decide_true, decide_false, Bool.true_and, Bool.and_true, Bool.false_eq_true, reduceCtorEq, ↓reduceIte, f1, f2, f3, eqD_ints (rI_lt hn) (rI_lt hn), eqD_t2, ng, Bool.not_true]
  have g9 : ∀ (w' : Nat → Int) (l' s' : Int) (y10 y11 y12 y13 : Option D), A2[3]? = some (win n w' l' s') → MInv n ps w' l' s' → sIf (mOrT (asB (mB (eqD true) (frL lc_law_7) (frL (mLs aNil)))) (mOrT (asB (mB (eqD true) (mCall m_alive (aCons (mV 5) aNil)) (mN dTup (aCons (frL lc_law_8) aNil)))) (asB (mB (eqD true) (mCall m_weight_of (aCons (mV 5) aNil)) (mN (fInts fun ns => some ns.sum) (aCons (mV 6) aNil)))))) (sRet (mC (.bl false))) sNil (env sc n ps k w' l' s' x9 y10 y11 y12 y13 x14 x15) A2 = .nx (env sc n ps k w' l' s' x9 y10 y11 y12 y13 x14 x15) A2 := fun w' l' s' y10 y11 y12 y13 hA J => by
    have hw7 : ∀ p ∈ ps, 1 ≤ w' p.toNat ∧ w' p.toNat ≤ n := fun p hp => by
      obtain ⟨e, he, _⟩ := J.ex
      obtain ⟨p0, p1⟩ := hps p hp
      have := (J.bd p.toNat (by omega)).2
      have h3 : (0 : Int) < 2 ^ e p.toNat := Int.pow_pos (by decide)
      have h4 := (he p hp).1
      exact ⟨by omega, this⟩
    have e7 := law7 (A := A2) (sc := sc) (k := k) (w := w') (l := l') (s := s') (x9 := x9) (x10 := y10) (x11 := y11) (x12 := y12) (x13 := y13) (x14 := x14) (x15 := x15) hps h2 hw7
    have e8 := law8 (A := A2) (sc := sc) (k := k) (w := w') (l := l') (s := s') (ps := ps) (x9 := x9) (x10 := y10) (x11 := y11) (x12 := y12) (x13 := y13) (x14 := x14) (x15 := x15) hn (fun i hi => (J.bd i hi).1)
    simp only [bd, mB, mU, mN, rd, op, mV, mC, asB, mAndT, mOrT, mNotT, mAndV, mOrV, mNotV, mIf, aNil, aCons, mTup, mLs, frL, nwL, bS, sNil, sSeq, sRet, sEx, sIf, sSet, sSub, stO, sAsg, sPar, sAug, mCall, i2, b2, sz0, sz1, sz2, sz3, sz4, sz5, sz6, sz7, sz8, sz9, List.length_cons, List.length_nil, Nat.reduceAdd, List.getElem?_cons_zero, List.getElem?_cons_succ, List.set_cons_zero, List.set_cons_succ, if_true, if_false, decide_true, decide_false, Bool.true_and, Bool.and_true, Bool.false_eq_true, reduceCtorEq, ↓reduceIte, e7, e8, eqD_nn, alive_ok hn hA, weight_ok hA, mN, dTup, dSeq, seqOf, lstOf, fInts, intsOf_map, Option.bind_some, Option.map_some, eqD_tints (nzI_lt hn) (nzI_lt hn), eqD_int, ng, Bool.not_true]
  unfold fb_law_9
  rw [seq_nx g10, seq_nx g11, seq_nx g12, seq_nx g13, seq_nx g5]
  have fin8 := g8 _ _ _ (P n b) (some (.bl (anyP ps b))) (some (.int (S n w b))) (some (.bl (gss n w b))) hw4
  have fin9 := g9 _ _ _ (P n b) (some (.bl (anyP ps b))) (some (.int (S n w b))) (some (.bl (gss n w b))) hw4 I'
  have e5 := law5 (A := A2) (b := b) (sc := sc) (k := k) (w := w) (l := l) (s := s) (ps := ps) (x9 := x9) (x11 := some (.bl (anyP ps b))) (x12 := some (.int (S n w b))) (x13 := some (.bl (gss n w b))) (x14 := x14) (x15 := x15) hn hw
  have e6 := law6 (A := A2) (b := b) (sc := sc) (k := k) (w := w) (l := l) (s := s) (ps := ps) (x9 := x9) (x11 := some (.bl (anyP ps b))) (x12 := some (.int (S n w b))) (x13 := some (.bl (gss n w b))) (x14 := x14) (x15 := x15) hn
  have g67 : sSeq (sIf (mAndT (asB (mV 11)) (mNotT (asB (mV 13)))) (sAsg (mTup (aCons (mB fAdd (mV 7) (mC (.int 1))) (aCons (frL lc_law_5) aNil))) (gT 2 (gsCons (gN 7) (gsCons (gN 6) gsNil)))) sNil) (sIf (mAndT (asB (mV 13)) (mNotT (asB (mV 11)))) (sAsg (mTup (aCons (mB fAdd (mV 8) (mC (.int 1))) (aCons (frL lc_law_6) aNil))) (gT 2 (gsCons (gN 8) (gsCons (gN 6) gsNil)))) sNil)
      (env sc n ps k w l s x9 (P n b) (some (.bl (anyP ps b))) (some (.int (S n w b))) (some (.bl (gss n w b))) x14 x15) A2 = .nx (env sc n ps k (upW n w b (anyP ps b)) (l + upL n w b (anyP ps b)) (s + upS n w b (anyP ps b)) x9 (P n b) (some (.bl (anyP ps b))) (some (.int (S n w b))) (some (.bl (gss n w b))) x14 x15) A2 := by
    clear fin8 fin9 g8 g9 hw4 St2 I' hsee' hsee hA2 g5
    unfold upW upL upS
    cases ha : anyP ps b with
    | true =>
      cases hg : gss n w b with
      | true =>
        simp only [bd, mB, mU, mN, rd, op, mV, mC, asB, mAndT, mOrT, mNotT, mAndV, mOrV, mNotV, mIf, aNil, aCons, mTup, mLs, frL, nwL, bS, sNil, sSeq, sRet, sEx, sIf, sSet, sSub, stO, sAsg, sPar, sAug, mCall, i2, b2, sz0, sz1, sz2, sz3, sz4, sz5, sz6, sz7, sz8, sz9, List.length_cons, List.length_nil, Nat.reduceAdd, List.getElem?_cons_zero, List.getElem?_cons_succ, List.set_cons_zero, List.set_cons_succ, if_true, if_false, decide_true, decide_false, Bool.true_and, Bool.and_true, Bool.false_eq_true, reduceCtorEq, ↓reduceIte, Bool.not_true, Bool.and_false, Bool.true_and, Int.add_zero]
      | false =>
        rw [ha, hg] at e5
        simp only [bd, mB, mU, mN, rd, op, mV, mC, asB, mAndT, mOrT, mNotT, mAndV, mOrV, mNotV, mIf, aNil, aCons, mTup, mLs, frL, nwL, bS, sNil, sSeq, sRet, sEx, sIf, sSet, sSub, stO, sAsg, sPar, sAug, mCall, i2, b2, sz0, sz1, sz2, sz3, sz4, sz5, sz6, sz7, sz8, sz9, List.length_cons, List.length_nil, Nat.reduceAdd, List.getElem?_cons_zero, List.getElem?_cons_succ, List.set_cons_zero, List.set_cons_succ, if_true, if_false, decide_true, decide_false, Bool.true_and, Bool.and_true, Bool.false_eq_true, reduceCtorEq, ↓reduceIte, e5, gT, gsCons, gN, gsNil, Option.bind_some, Bool.not_true, Bool.not_false, Bool.and_false, Bool.true_and, Int.add_zero]
    | false =>
      cases hg : gss n w b with
      | false =>
        simp only [bd, mB, mU, mN, rd, op, mV, mC, asB, mAndT, mOrT, mNotT, mAndV, mOrV, mNotV, mIf, aNil, aCons, mTup, mLs, frL, nwL, bS, sNil, sSeq, sRet, sEx, sIf, sSet, sSub, stO, sAsg, sPar, sAug, mCall, i2, b2, sz0, sz1, sz2, sz3, sz4, sz5, sz6, sz7, sz8, sz9, List.length_cons, List.length_nil, Nat.reduceAdd, List.getElem?_cons_zero, List.getElem?_cons_succ, List.set_cons_zero, List.set_cons_succ, if_true, if_false, decide_true, decide_false, Bool.true_and, Bool.and_true, Bool.false_eq_true, reduceCtorEq, ↓reduceIte, Bool.not_true, Bool.not_false, Bool.and_false, Bool.false_and, Int.add_zero]
      | true =>
        rw [ha, hg] at e6
        simp only [bd, mB, mU, mN, rd, op, mV, mC, asB, mAndT, mOrT, mNotT, mAndV, mOrV, mNotV, mIf, aNil, aCons, mTup, mLs, frL, nwL, bS, sNil, sSeq, sRet, sEx, sIf, sSet, sSub, stO, sAsg, sPar, sAug, mCall, i2, b2, sz0, sz1, sz2, sz3, sz4, sz5, sz6, sz7, sz8, sz9, List.length_cons, List.length_nil, Nat.reduceAdd, List.getElem?_cons_zero, List.getElem?_cons_succ, List.set_cons_zero, List.set_cons_succ, if_true, if_false, decide_true, decide_false, Bool.true_and, Bool.and_true, Bool.false_eq_true, reduceCtorEq, ↓reduceIte, e6, gT, gsCons, gN, gsNil, Option.bind_some, Bool.not_true, Bool.not_false, Bool.false_and, Bool.true_and, Bool.and_true, Int.add_zero]
  have seq2 : ∀ (m1 m2 q : MS) (ρ ρ' : Sm.Env) (A A' : Sto), sSeq m1 m2 ρ A = .nx ρ' A' → sSeq m1 (sSeq m2 q) ρ A = q ρ' A' := fun m1 m2 q ρ ρ' A A' h => by
    unfold sSeq at h ⊢
    cases h1 : m1 ρ A with
    | nx ρ1 A1 => simp only [h1] at h ⊢; simp only [h]
    | rt d A1 => simp only [h1] at h; cases h
    | bk d A1 => simp only [h1] at h; cases h
    | ct d A1 => simp only [h1] at h; cases h
    | exc d a A1 => simp only [h1] at h; cases h
    | no => simp only [h1] at h; cases h
  rw [seq2 _ _ _ _ _ _ _ g67, seq_nx fin8]
  exact fin9
end
/-! ### the loop -/
section
variable {n : Nat} {ps : List Int} {sc : D} {k x14 x15 : Option D}
theorem loop_ok (hn : n ≤ 8) (hps : ∀ p ∈ ps, 0 ≤ p ∧ p < n) (h2 : ps.length ≤ 2) : ∀ (ds : List D) (A : Sto) (w : Nat → Int) (l s : Int) (t : Nat) (x9 x10 x11 x12 x13 : Option D), MInv n ps w l s → St A n w l s t → t + 8 * ds.length < 2 ^ 30 →
    ∃ (w' : Nat → Int) (l' s' : Int) (y9 y10 y11 y12 y13 : Option D) (A' : Sto), forL (gN 9) fb_law_9 ds (env sc n ps k w l s x9 x10 x11 x12 x13 x14 x15) A = .nx (env sc n ps k w' l' s' y9 y10 y11 y12 y13 x14 x15) A' ∧ MInv n ps w' l' s' ∧ St A' n w' l' s' (t + 8 * ds.length)
  | [], A, w, l, s, t, x9, x10, x11, x12, x13, I, hS, _ => ⟨w, l, s, x9, x10, x11, x12, x13, A, rfl, I, hS⟩
  | d :: ds, A, w, l, s, t, x9, x10, x11, x12, x13, I, hS, ht => by
    obtain ⟨w1, l1, s1, y10, y11, y12, y13, A1, e1, I1, S1⟩ := turn_ok (sc := sc) (k := k) (x9 := some d) (x10 := x10) (x11 := x11) (x12 := x12) (x13 := x13) (x14 := x14) (x15 := x15) hn hps h2 I hS (by simp at ht; omega)
    obtain ⟨w2, l2, s2, z9, z10, z11, z12, z13, A2, e2, I2, S2⟩ := loop_ok hn hps h2 ds A1 w1 l1 s1 (t + 8) (some d) y10 y11 y12 y13 I1 S1 (by simp at ht; omega)
    refine ⟨w2, l2, s2, z9, z10, z11, z12, z13, A2, ?_, I2, by have e : t + 8 * (d :: ds).length = t + 8 + 8 * ds.length := by simp; omega
                                                               rw [e]; exact S2⟩
    have e0 : gN 9 d (env sc n ps k w l s x9 x10 x11 x12 x13 x14 x15) = some (env sc n ps k w l s (some d) x10 x11 x12 x13 x14 x15) := rfl
    unfold forL
    simp only [e0, e1, e2]
end
/-! ### the places -/
theorem aCons_ok {m : ME} {r : MA} {ρ : Sm.Env} {A A1 A2 : Sto} {d : D} {ds : List D} (h1 : m ρ A = .ok d A1) (h2 : r ρ A1 = .ok ds A2) : aCons m r ρ A = .ok (d :: ds) A2 := by
  unfold aCons
  simp only [bd, h1, h2, op]
def fp (r : Int) : D := .tup [.int r, .int 1]
theorem places_ok {rs : List Int} (h : rs.length = 1 ∨ rs.length = 2) {m : MA} {ρ : Sm.Env} {A A' : Sto} (hm : m ρ A = .ok (rs.map fp) A') : ∃ ks : List Int, mNL dSortDI (aCons (mN dDictP (aCons (frL m) aNil)) aNil) ρ A = .ok (ks.map .int) A' ∧ (∀ k ∈ ks, k ∈ rs) ∧ ks.length ≤ 2 := by
  have go : ∀ ks : List Int, dDictP A' [.lst (rs.map fp)] = some (.dct (ks.map fun k => (.int k, .int 1))) → (∀ k ∈ ks, k ∈ rs) → ks.length ≤ 2 → ∃ ks : List Int, mNL dSortDI (aCons (mN dDictP (aCons (frL m) aNil)) aNil) ρ A = .ok (ks.map .int) A' ∧ (∀ k ∈ ks, k ∈ rs) ∧ ks.length ≤ 2 := fun ks e h1 h2 => by
    have hk : ∀ ks : List Int, intKeys (ks.map fun k => (D.int k, D.int 1)) = some ks := fun ks => by
      induction ks with
      | nil => rfl
      | cons x r ih => simp only [List.map_cons, intKeys, ih, Option.map_some]
    have hd : decide (ks.length < 64) = true := decide_eq_true (by omega)
    refine ⟨sortI ks, ?_, fun k hk' => h1 k ((sortI_perm ks).mem_iff.mp hk'), by rw [(sortI_perm ks).length_eq]; exact h2⟩
    have e1 : mN dDictP (aCons (frL m) aNil) ρ A = .ok (.dct (ks.map fun k => (.int k, .int 1))) A' := by
      unfold mN aCons frL
      simp only [bd, hm, op, aNil, rd, e]
    have e2 : aCons (mN dDictP (aCons (frL m) aNil)) aNil ρ A = .ok [.dct (ks.map fun k => (.int k, .int 1))] A' := aCons_ok e1 rfl
    unfold mNL
    simp only [bd, e2, rd, dSortDI, hk, Option.bind_some, hd, ↓reduceIte]
  match rs, h with
  | [a], _ => exact go [a] rfl (by simp) (by simp)
  | [a, b], _ =>
    by_cases hab : a = b
    · subst hab
      refine go [a] ?_ (by simp) (by simp)
      unfold dDictP
      simp only [List.map_cons, List.map_nil, fp, lstOf, Option.bind_some, pairsOf, pairOf, keyOf, Option.map_some, mergeKD, List.foldl_cons, List.foldl_nil, putKD, List.any_nil, List.nil_append, List.any_cons, Bool.false_eq_true, ↓reduceIte, decide_true, Bool.true_or, unK, keyD]
    · refine go [a, b] ?_ (by simp) (by simp)
      have hne : ¬ (Sum.inl a : L2.Key) = Sum.inl b := fun z => hab (Sum.inl.inj z)
      unfold dDictP
      simp only [List.map_cons, List.map_nil, fp, lstOf, Option.bind_some, pairsOf, pairOf, keyOf, Option.map_some, mergeKD, List.foldl_cons, List.foldl_nil, putKD, List.any_nil, List.nil_append, List.any_cons, Bool.false_eq_true, ↓reduceIte, decide_eq_false hne, Bool.false_or, unK, keyD, List.cons_append]
theorem law1 {ρ : Sm.Env} {A : Sto} {n t : Nat} (hl : ρ.length = 16) (h1 : ρ[1]? = some (some (.ref 2))) (h2 : ρ[2]? = some (some (.int n))) (n1 : 1 ≤ n) (n8 : n ≤ 8) (hD : Dice A 2 t) (ht : t < 2 ^ 30) :
    ∃ (rs : List Int) (A' : Sto), lc_law_1 ρ A = .ok (rs.map fp) A' ∧ (rs.length = 1 ∨ rs.length = 2) ∧ (∀ r ∈ rs, 0 ≤ r ∧ r < n) ∧ Dice A' 2 (t + 3) ∧ But 2 A A' := by
  have v1 : ∀ A, mV 1 ρ A = .ok (.ref 2) A := fun A => by unfold mV; rw [h1]
  obtain ⟨r, A1, e1, r0, r1, hD1, b1⟩ := call_roll (m1 := mV 1) (m2 := mC (.int 2)) (ρ := ρ) (q := 2) (v1 A) rfl hD (by omega) (by decide) (by decide)
  have w1 : ∀ x A, mV 1 ((wipeD ρ [4]).set 4 (some x)) A = .ok (.ref 2) A := fun x A => by
    unfold mV wipeD wipeD
    rw [List.getElem?_set_ne (by decide), List.getElem?_set_ne (by decide), h1]
  have w2 : ∀ x A, mV 2 ((wipeD ρ [4]).set 4 (some x)) A = .ok (.int n) A := fun x A => by
    unfold mV wipeD wipeD
    rw [List.getElem?_set_ne (by decide), List.getElem?_set_ne (by decide), h2]
  obtain ⟨rs, A2, e2, hln, hrs, hD2, b2⟩ := rolls_ok (m := mTup (aCons (mCall m_law_roll (aCons (mV 1) (aCons (mV 2) aNil))) (aCons (mC (.int 1)) aNil))) (F := fp) (ρ := wipeD ρ [4]) (d := 2) (j := 4) (q := n) (fun x A t hD ht => by
    obtain ⟨r, A', e, r0, r1, hD', b⟩ := call_roll (m1 := mV 1) (m2 := mV 2) (ρ := (wipeD ρ [4]).set 4 (some x)) (q := n) (w1 x A) (w2 x A) hD ht (by omega) (by omega)
    refine ⟨r, A', ?_, r0, r1, hD', b⟩
    have e' : aCons (mCall m_law_roll (aCons (mV 1) (aCons (mV 2) aNil))) (aCons (mC (.int 1)) aNil) ((wipeD ρ [4]).set 4 (some x)) A = .ok [.int r, .int 1] A' := aCons_ok e rfl
    unfold mTup
    simp only [bd, e', op, List.length_cons, List.length_nil, Nat.reduceAdd, sz2, ↓reduceIte, fp]) (rngD 0 (1 + r).toNat) A1 (t + 1) hD1 (by rw [rngD_len]; omega)
  rw [rngD_len] at hln hD2
  refine ⟨rs, A2, ?_, by omega, hrs, hD2.mono (by omega), b1.trans b2⟩
  have hs : smI (1 + r) = true := decide_eq_true (by omega)
  have hz : szOk (rngD 0 (1 + r).toNat).length = true := decide_eq_true (by rw [rngD_len]; omega)
  have hi : mItN rng1 (aCons (mB fAdd (mC (.int 1)) (mCall m_law_roll (aCons (mV 1) (aCons (mC (.int 2)) aNil)))) aNil) ρ A = .ok (rngD 0 (1 + r).toNat) A1 := by
    have e1' : mCall m_law_roll (aCons (mV 1) (aCons (mC (.int 2)) aNil)) ρ A = .ok (.int r) A1 := e1
    have a0 : mB fAdd (mC (.int 1)) (mCall m_law_roll (aCons (mV 1) (aCons (mC (.int 2)) aNil))) ρ A = .ok (.int (1 + r)) A1 := by
      unfold mB
      simp only [bd, mC, e1', rd, i2, ↓reduceIte]
    have a1 := aCons_ok (r := aNil) a0 rfl
    unfold mItN
    simp only [bd, a1, op, rng1, hs, ↓reduceIte]
  unfold lc_law_1 mLc
  simp only [bd, hi, e2, hz, ↓reduceIte]
/-! ### what is behind the loop -/
section
variable {n : Nat} {w : Nat → Int} {l s : Int} {ps : List Int} {sc : D} {k x9 x10 x11 x12 x13 x14 x15 : Option D} {A : Sto}
theorem pow_go {c : Int} {f : Nat} (hc : 0 ≤ c ∧ c < 4) : whl (asB (mB fLt (mB ixD (frL (mLs (aCons (mC (.int 1)) (aCons (mC (.int 2)) (aCons (mC (.int 4)) (aCons (mC (.int 8)) aNil)))))) (mV 14)) (mV 2))) wb_law_10 (f + 1) (env sc n ps k w l s x9 x10 x11 x12 x13 (some (.int c)) x15) A =
    if (2 : Int) ^ c.toNat < n then whl (asB (mB fLt (mB ixD (frL (mLs (aCons (mC (.int 1)) (aCons (mC (.int 2)) (aCons (mC (.int 4)) (aCons (mC (.int 8)) aNil)))))) (mV 14)) (mV 2))) wb_law_10 f (env sc n ps k w l s x9 x10 x11 x12 x13 (some (.int (c + 1))) x15) A else .nx (env sc n ps k w l s x9 x10 x11 x12 x13 (some (.int c)) x15) A := by
  have hx : ixD A (.lst [.int 1, .int 2, .int 4, .int 8]) (.int c) = some (.int (2 ^ c.toNat)) := by
    have : c = 0 ∨ c = 1 ∨ c = 2 ∨ c = 3 := by omega
    rcases this with rfl | rfl | rfl | rfl <;> rfl
  split
  · rename_i h
    refine whl_go (A1 := A) ?_ ?_
    · simp only [bd, mB, mU, mN, rd, op, mV, mC, asB, mAndT, mOrT, mNotT, mAndV, mOrV, mNotV, mIf, aNil, aCons, mTup, mLs, frL, nwL, bS, sNil, sSeq, sRet, sEx, sIf, sSet, sSub, stO, sAsg, sPar, sAug, mCall, i2, b2, sz0, sz1, sz2, sz3, sz4, sz5, sz6, sz7, sz8, sz9, List.length_cons, List.length_nil, Nat.reduceAdd, List.getElem?_cons_zero, List.getElem?_cons_succ, List.set_cons_zero, List.set_cons_succ, if_true, if_false, decide_true, decide_false, Bool.true_and, Bool.and_true, Bool.false_eq_true, reduceCtorEq, ↓reduceIte, hx, decide_eq_true h]
    · unfold wb_law_10
      simp only [bd, mB, mU, mN, rd, op, mV, mC, asB, mAndT, mOrT, mNotT, mAndV, mOrV, mNotV, mIf, aNil, aCons, mTup, mLs, frL, nwL, bS, sNil, sSeq, sRet, sEx, sIf, sSet, sSub, stO, sAsg, sPar, sAug, mCall, i2, b2, sz0, sz1, sz2, sz3, sz4, sz5, sz6, sz7, sz8, sz9, List.length_cons, List.length_nil, Nat.reduceAdd, List.getElem?_cons_zero, List.getElem?_cons_succ, List.set_cons_zero, List.set_cons_succ, if_true, if_false, decide_true, decide_false, Bool.true_and, Bool.and_true, Bool.false_eq_true, reduceCtorEq, ↓reduceIte]
  · rename_i h
    refine whl_end ?_
    simp only [bd, mB, mU, mN, rd, op, mV, mC, asB, mAndT, mOrT, mNotT, mAndV, mOrV, mNotV, mIf, aNil, aCons, mTup, mLs, frL, nwL, bS, sNil, sSeq, sRet, sEx, sIf, sSet, sSub, stO, sAsg, sPar, sAug, mCall, i2, b2, sz0, sz1, sz2, sz3, sz4, sz5, sz6, sz7, sz8, sz9, List.length_cons, List.length_nil, Nat.reduceAdd, List.getElem?_cons_zero, List.getElem?_cons_succ, List.set_cons_zero, List.set_cons_succ, if_true, if_false, decide_true, decide_false, Bool.true_and, Bool.and_true, Bool.false_eq_true, reduceCtorEq, ↓reduceIte, hx, decide_eq_false h]
theorem pow_ok (h8 : n ≤ 8) : wh_law_11 (env sc n ps k w l s x9 x10 x11 x12 x13 (some (.int 0)) x15) A = .nx (env sc n ps k w l s x9 x10 x11 x12 x13 (some (.int (lg n))) x15) A := by
  unfold wh_law_11
  rw [fuel4, pow_go (by decide)]
  unfold lg
  have e0 : (2 : Int) ^ (0 : Int).toNat = 1 := rfl
  have e1 : (2 : Int) ^ (0 + 1 : Int).toNat = 2 := rfl
  have e2 : (2 : Int) ^ (0 + 1 + 1 : Int).toNat = 4 := rfl
  have e3 : (2 : Int) ^ (0 + 1 + 1 + 1 : Int).toNat = 8 := rfl
  rw [e0]
  by_cases a1 : n ≤ 1
  · rw [if_neg (by omega), if_pos a1]; rfl
  rw [if_pos (by omega), pow_go (by decide), e1, if_neg a1]
  by_cases a2 : n ≤ 2
  · rw [if_neg (by omega), if_pos a2]; rfl
  rw [if_pos (by omega), pow_go (by decide), e2, if_neg a2]
  by_cases a3 : n ≤ 4
  · rw [if_neg (by omega), if_pos a3]; rfl
  rw [if_pos (by omega), pow_go (by decide), e3, if_neg a3, if_neg (by omega)]
  rfl
theorem len_ok {ρ : Sm.Env} (h : mV 3 ρ A = .ok (.lst (ps.map .int)) A) : mN dLen (aCons (mV 3) aNil) ρ A = .ok (.int ps.length) A := by
  have e := aCons_ok (r := aNil) h rfl
  unfold mN
  simp only [bd, e, rd, dLen, seqOf, lstOf, Option.map_some, List.length_map]
theorem lg_le (n : Nat) : lg n ≤ 3 := by unfold lg; split <;> (try split) <;> (try split) <;> omega
theorem g5_ok (h1 : 1 ≤ n) (h8 : n ≤ 8) (h2 : ps.length ≤ 2) (I : MInv n ps w l s) : sIf (mOrT (asB (mB fGt (mB fAdd (mV 7) (mV 8)) (mCall m_most_winnow (aCons (mV 2) (aCons (mN dLen (aCons (mV 3) aNil)) aNil))))) (asB (mB fGt (mV 8) (mB fAdd (mV 7) (mC (.int 2)))))) (sRet (mC (.bl false))) sNil (env sc n ps k w l s x9 x10 x11 x12 x13 x14 x15) A = .nx (env sc n ps k w l s x9 x10 x11 x12 x13 x14 x15) A := by
  obtain ⟨f1, f2⟩ := I.fin h1 h8
  have c1 : mCall m_most_winnow (aCons (mV 2) (aCons (mN dLen (aCons (mV 3) aNil)) aNil)) (env sc n ps k w l s x9 x10 x11 x12 x13 x14 x15) A = .ok (.int (2 * ps.length * (lg n + 1) + 2)) A := by
    have e : aCons (mV 2) (aCons (mN dLen (aCons (mV 3) aNil)) aNil) (env sc n ps k w l s x9 x10 x11 x12 x13 x14 x15) A = .ok [.int n, .int ps.length] A := aCons_ok rfl (aCons_ok (len_ok rfl) rfl)
    unfold mCall
    simp only [bd, e, most_ok (A := A) (k := (ps.length : Int)) h1 h8 (by omega)]
  have k1 : decide (l + s > 2 * (ps.length : Int) * (lg n + 1) + 2) = false := by simp; omega
  have k2 : decide (s > l + 2) = false := by simp; omega
  unfold sIf mOrT asB mB
  simp only [bS, bd, mV, mC, rd, op, i2, b2, List.getElem?_cons_succ, List.getElem?_cons_zero, c1, k1, k2, ↓reduceIte, sNil]
theorem g8_ok (h1 : 1 ≤ n) (h8 : n ≤ 8) (h2 : ps.length ≤ 2) : sIf (mOrT (asB (mB (eqD true) (mCall m_logarithm (aCons (mV 2) aNil)) (mV 14))) (asB (mB (eqD true) (mCall m_most_winnow (aCons (mV 2) (aCons (mN dLen (aCons (mV 3) aNil)) aNil))) (mB fAdd (mB fMul (mB fMul (mC (.int 2)) (mN dLen (aCons (mV 3) aNil))) (mB fAdd (mV 14) (mC (.int 1)))) (mC (.int 2)))))) (sRet (mC (.bl false))) sNil (env sc n ps k w l s x9 x10 x11 x12 x13 (some (.int (lg n))) x15) A = .nx (env sc n ps k w l s x9 x10 x11 x12 x13 (some (.int (lg n))) x15) A := by
  have c1 : mCall m_most_winnow (aCons (mV 2) (aCons (mN dLen (aCons (mV 3) aNil)) aNil)) (env sc n ps k w l s x9 x10 x11 x12 x13 (some (.int (lg n))) x15) A = .ok (.int (2 * ps.length * (lg n + 1) + 2)) A := by
    have e : aCons (mV 2) (aCons (mN dLen (aCons (mV 3) aNil)) aNil) (env sc n ps k w l s x9 x10 x11 x12 x13 (some (.int (lg n))) x15) A = .ok [.int n, .int ps.length] A := aCons_ok rfl (aCons_ok (len_ok rfl) rfl)
    unfold mCall
    simp only [bd, e, most_ok (A := A) (k := (ps.length : Int)) h1 h8 (by omega)]
  have c2 : mCall m_logarithm (aCons (mV 2) aNil) (env sc n ps k w l s x9 x10 x11 x12 x13 (some (.int (lg n))) x15) A = .ok (.int (lg n)) A := by
    have e : aCons (mV 2) aNil (env sc n ps k w l s x9 x10 x11 x12 x13 (some (.int (lg n))) x15) A = .ok [.int n] A := aCons_ok rfl rfl
    unfold mCall
    simp only [bd, e, log_ok (A := A) h1 h8]
  have c3 := len_ok (A := A) (ps := ps) (ρ := env sc n ps k w l s x9 x10 x11 x12 x13 (some (.int (lg n))) x15) rfl
  have hl := lg_le n
  have m1 := mul_small (x := 2) (y := (ps.length : Int)) (by decide) (by omega)
  have m2 := mul_small (x := 2 * (ps.length : Int)) (y := (lg n : Int) + 1) (by omega) (by omega)
  unfold sIf mOrT asB
  simp only [bS, bd, mB, mV, mC, rd, op, i2, b2, List.getElem?_cons_succ, List.getElem?_cons_zero, c1, c2, c3, m1, m2, eqD_int, ng, decide_true, Bool.not_true, ↓reduceIte, sNil]
theorem rep0 {A : Sto} (h1 : 1 ≤ n) (h8 : n ≤ 8) : repT A (.tup [.int 0]) (.int n) = some (.tup ((rI n fun _ => 0).map .int)) := by
  have : n = 1 ∨ n = 2 ∨ n = 3 ∨ n = 4 ∨ n = 5 ∨ n = 6 ∨ n = 7 ∨ n = 8 := by omega
  rcases this with rfl | rfl | rfl | rfl | rfl | rfl | rfl | rfl <;> rfl
theorem see_exc {L : Nat} (hn : n ≤ 8) (h : A[L]? = some (win n w l s)) : m_Winnow__see [.ref L, .tup ((rI n fun _ => 0).map .int), .bl true] A = .exc "BadExample" A := by
  have e0 : m_Winnow__see [.ref L, .tup ((rI n fun _ => 0).map .int), .bl true] A = fin false A.length (b_Winnow__see [some (.ref L), some (.tup ((rI n fun _ => 0).map .int)), some (.bl true), none, none, none] A) := rfl
  have hz : (zs n w fun _ => 0).all id = true := by
    have : zs n w (fun _ => 0) = [] := by simp [zs]
    rw [this]; rfl
  have hb : b_Winnow__see [some (.ref L), some (.tup ((rI n fun _ => 0).map .int)), some (.bl true), none, none, none] A = .exc "BadExample" [some (.ref L), some (.tup ((rI n fun _ => 0).map .int)), some (.bl true), none, none, none] A := by
    unfold b_Winnow__see
    simp only [bd, mB, mU, mN, rd, op, mV, mC, asB, mAndT, mOrT, mNotT, mAndV, mOrV, mNotV, mIf, aNil, aCons, mTup, mLs, frL, nwL, bS, sNil, sSeq, sRet, sEx, sIf, sSet, sSub, stO, sAsg, sPar, sAug, mCall, i2, b2, sz0, sz1, sz2, sz3, sz4, sz5, sz6, sz7, sz8, sz9, List.length_cons, List.length_nil, Nat.reduceAdd, List.getElem?_cons_zero, List.getElem?_cons_succ, List.set_cons_zero, List.set_cons_succ, if_true, if_false, decide_true, decide_false, Bool.true_and, Bool.and_true, Bool.false_eq_true, reduceCtorEq, ↓reduceIte, mN, fBools, lstOf, lc_s1 (b := fun _ => 0) (by omega) h, boolsOf_map, hz, Option.bind_some, Option.map_some, sRaise]
  rw [e0, hb]
  unfold fin trimA
  simp
theorem told_ok {ρ : Sm.Env} {L : Nat} (h1 : 1 ≤ n) (hn : n ≤ 8) (v15 : mV 15 ρ A = .ok (.ref L) A) (v2 : mV 2 ρ A = .ok (.int n) A) (hL : A[L]? = some (win n w l s)) (hT : A[1]? = some (.tabL 1 "law.<locals>.<lambda>")) :
    mTold 1 "law.<locals>.<lambda>" told_hs ["BadExample"] tl_law_12 ρ A = .ok (.str "example") A := by
  have e1 : mB repT (mTup (aCons (mC (.int 0)) aNil)) (mV 2) ρ A = .ok (.tup ((rI n fun _ => 0).map .int)) A := by
    have : mTup (aCons (mC (.int 0)) aNil) ρ A = .ok (.tup [.int 0]) A := rfl
    unfold mB
    simp only [bd, this, v2, rd, rep0 h1 hn]
  have e2 : aCons (mB repT (mTup (aCons (mC (.int 0)) aNil)) (mV 2)) (aCons (mC (.bl true)) aNil) ρ A = .ok [.tup ((rI n fun _ => 0).map .int), .bl true] A := aCons_ok e1 rfl
  have e3 : tl_law_12 ρ A = .exc "BadExample" A := by
    unfold tl_law_12 mMeth
    simp only [bd, v15, rd, m_see hL, e2, see_exc hn hL]
  have c1 : (["BadExample"] : List Str).contains "BadExample" = true := by decide +kernel
  have c2 : toldL "BadExample" told_hs = some ("example" : Str) := by decide +kernel
  unfold mTold
  simp only [hT, e3, c1, c2, and_self, ↓reduceIte]
theorem eq_ex {A : Sto} : eqD true A (.str "example") (.str "example") = some (.bl false) := by
  have h : SeqAt.shaped (.str "example") = true := by decide +kernel
  show (if (SeqAt.shaped (.str "example") && SeqAt.shaped (.str "example")) = true then some (D.bl (if true then !PyData.eqv (.str "example") (.str "example") else PyData.eqv (.str "example") (.str "example"))) else none) = _
  rw [h]
  simp [PyData.eqv]
theorem frL_ok {m : MA} {ρ : Sm.Env} {A A' : Sto} {ds : List D} (h : m ρ A = .ok ds A') : frL m ρ A = .ok (.lst ds) A' := by
  unfold frL
  simp only [bd, h, op]
theorem sSet_ok {i : Nat} {m : ME} {ρ : Sm.Env} {A A' : Sto} {d : D} (h : m ρ A = .ok d A') : sSet i m ρ A = .nx (ρ.set i (some d)) A' := by
  unfold sSet
  simp only [bS, h]
end
/-! ### the law -/
theorem body_ok {sc : D} {A : Sto} (len : A.length = 3) (g0 : A[0]? = some (.tabG 0)) (g1 : A[1]? = some (.tabL 1 "law.<locals>.<lambda>")) (hD : Dice A 2 0) :
    ∃ (ρ' : Sm.Env) (A' : Sto), fb_law_13 [some sc, some (.ref 2), none, none, none, none, none, none, none, none, none, none, none, none, none, none] A = .nx ρ' A' := by
  -- many
  obtain ⟨r, A1, e1, r0, r1, hD1, b1⟩ := call_roll (m1 := mV 1) (m2 := mC (.int 8)) (ρ := [some sc, some (.ref 2), none, none, none, none, none, none, none, none, none, none, none, none, none, none]) (q := 8) rfl rfl hD (by decide) (by decide) (by decide)
  have e1 : mCall m_law_roll (aCons (mV 1) (aCons (mC (.int 8)) aNil)) [some sc, some (.ref 2), none, none, none, none, none, none, none, none, none, none, none, none, none, none] A = .ok (.int r) A1 := e1
  obtain ⟨n, hn⟩ : ∃ n : Nat, 1 + r = n := ⟨(1 + r).toNat, by omega⟩
  have n1 : 1 ≤ n := by omega
  have n8 : n ≤ 8 := by omega
  have s1 : sSet 2 (mB fAdd (mC (.int 1)) (mCall m_law_roll (aCons (mV 1) (aCons (mC (.int 8)) aNil)))) [some sc, some (.ref 2), none, none, none, none, none, none, none, none, none, none, none, none, none, none] A = .nx [some sc, some (.ref 2), some (.int n), none, none, none, none, none, none, none, none, none, none, none, none, none] A1 := by
    unfold sSet mB
    simp only [bS, bd, mC, e1, rd, i2, ↓reduceIte, hn]
    rfl
  -- places
  obtain ⟨rs, A2, e2, hl, hr, hD2, b2⟩ := law1 (ρ := [some sc, some (.ref 2), some (.int n), none, none, none, none, none, none, none, none, none, none, none, none, none]) rfl rfl rfl n1 n8 hD1 (by decide)
  obtain ⟨ps, e3, hk, h2⟩ := places_ok hl e2
  have hps : ∀ p ∈ ps, 0 ≤ p ∧ p < n := fun p hp => hr p (hk p hp)
  have s2 : sSet 3 (frL (mNL dSortDI (aCons (mN dDictP (aCons (frL lc_law_1) aNil)) aNil))) [some sc, some (.ref 2), some (.int n), none, none, none, none, none, none, none, none, none, none, none, none, none] A1 = .nx [some sc, some (.ref 2), some (.int n), some (.lst (ps.map .int)), none, none, none, none, none, none, none, none, none, none, none, none] A2 := by
    exact sSet_ok (frL_ok e3)
  -- the learner
  have len2 : A2.length = 3 := by rw [b2.len, b1.len, len]
  have mk := make_ok (A := A2) (ρ := [some sc, some (.ref 2), some (.int n), some (.lst (ps.map .int)), none, none, none, none, none, none, none, none, none, none, none, none]) n8 rfl
  rw [len2] at mk
  have rp := rep_eval (A := A2 ++ [win n (fun _ => 1) 0 0]) (i := 2) (ρ := [some sc, some (.ref 2), some (.int n), some (.lst (ps.map .int)), none, none, none, none, none, none, none, none, none, none, none, none]) n8 rfl
  have s3 : sAsg (mTup (aCons (mMake "Winnow" m_Winnow__init (aCons (mV 2) aNil)) (aCons (frL (mRepL (mLs (aCons (mC (.int 1)) aNil)) (mV 2))) (aCons (mC (.int 0)) (aCons (mC (.int 0)) aNil))))) (gT 4 (gsCons (gN 5) (gsCons (gN 6) (gsCons (gN 7) (gsCons (gN 8) gsNil))))) [some sc, some (.ref 2), some (.int n), some (.lst (ps.map .int)), none, none, none, none, none, none, none, none, none, none, none, none] A2 =
      .nx (env sc n ps none (fun _ => 1) 0 0 none none none none none none none) (A2 ++ [win n (fun _ => 1) 0 0]) := by
    have f : frL (mRepL (mLs (aCons (mC (.int 1)) aNil)) (mV 2)) [some sc, some (.ref 2), some (.int n), some (.lst (ps.map .int)), none, none, none, none, none, none, none, none, none, none, none, none] (A2 ++ [win n (fun _ => 1) 0 0]) = .ok (.lst ((rI n fun _ => 1).map .int)) (A2 ++ [win n (fun _ => 1) 0 0]) := by
      unfold frL
      simp only [bd, rp, op]
    have e : aCons (mMake "Winnow" m_Winnow__init (aCons (mV 2) aNil)) (aCons (frL (mRepL (mLs (aCons (mC (.int 1)) aNil)) (mV 2))) (aCons (mC (.int 0)) (aCons (mC (.int 0)) aNil))) [some sc, some (.ref 2), some (.int n), some (.lst (ps.map .int)), none, none, none, none, none, none, none, none, none, none, none, none] A2 = .ok [.ref 3, .lst ((rI n fun _ => 1).map .int), .int 0, .int 0] (A2 ++ [win n (fun _ => 1) 0 0]) := aCons_ok mk (aCons_ok f rfl)
    unfold sAsg mTup
    simp only [bS, bd, e, op, List.length_cons, List.length_nil, Nat.reduceAdd, sz4, ↓reduceIte]
    rfl
  have St3 : St (A2 ++ [win n (fun _ => 1) 0 0]) n (fun _ => 1) 0 0 4 := by
    have at_ : ∀ k o, k < 3 → A2[k]? = some o → (A2 ++ [win n (fun _ => 1) 0 0])[k]? = some o := fun k o hk h => by rw [List.getElem?_append_left (by omega)]; exact h
    refine ⟨by simp [len2], at_ 0 _ (by decide) ?_, at_ 1 _ (by decide) ?_, ?_, ?_⟩
    · rw [b2.at_ 0 (by decide), b1.at_ 0 (by decide)]; exact g0
    · rw [b2.at_ 1 (by decide), b1.at_ 1 (by decide)]; exact g1
    · obtain ⟨c0, c1, c2, a1, a2, a3⟩ := hD2
      exact ⟨c0, c1, c2, at_ 2 _ (by decide) a1, a2, by omega⟩
    · rw [← len2]; simp
  -- the turns
  obtain ⟨q, A3, e4, q0, q1, hD3, b3⟩ := call_roll (m1 := mV 1) (m2 := mC (.int 13)) (ρ := env sc n ps none (fun _ => 1) 0 0 none none none none none none none) (q := 13) rfl rfl St3.dice (by decide) (by decide) (by decide)
  have e4 : mCall m_law_roll (aCons (mV 1) (aCons (mC (.int 13)) aNil)) (env sc n ps none (fun _ => 1) 0 0 none none none none none none none) (A2 ++ [win n (fun _ => 1) 0 0]) = .ok (.int q) A3 := e4
  have St4 : St A3 n (fun _ => 1) 0 0 5 := ⟨b3.len.trans St3.len, (b3.at_ 0 (by decide)).trans St3.g, (b3.at_ 1 (by decide)).trans St3.lm, hD3, (b3.at_ 3 (by decide)).trans St3.win⟩
  have hi : mItN rng1 (aCons (mCall m_law_roll (aCons (mV 1) (aCons (mC (.int 13)) aNil))) aNil) (env sc n ps none (fun _ => 1) 0 0 none none none none none none none) (A2 ++ [win n (fun _ => 1) 0 0]) = .ok (rngD 0 q.toNat) A3 := by
    have a1 := aCons_ok (r := aNil) e4 rfl
    have hs : smI q = true := decide_eq_true (by omega)
    unfold mItN
    simp only [bd, a1, op, rng1, hs, ↓reduceIte]
  obtain ⟨w, l, s, y9, y10, y11, y12, y13, A4, e5, I, St5⟩ := loop_ok (sc := sc) (k := none) (x14 := none) (x15 := none) n8 hps h2 (rngD 0 q.toNat) A3 (fun _ => 1) 0 0 5 none none none none none (MInv.start n1) St4 (by rw [rngD_len]; omega)
  have s4 : sFor (mItN rng1 (aCons (mCall m_law_roll (aCons (mV 1) (aCons (mC (.int 13)) aNil))) aNil)) (gN 9) fb_law_9 (env sc n ps none (fun _ => 1) 0 0 none none none none none none none) (A2 ++ [win n (fun _ => 1) 0 0]) = .nx (env sc n ps none w l s y9 y10 y11 y12 y13 none none) A4 := by
    unfold sFor
    simp only [bS, hi, e5]
  have s6 : sSet 14 (mC (.int 0)) (env sc n ps none w l s y9 y10 y11 y12 y13 none none) A4 = .nx (env sc n ps none w l s y9 y10 y11 y12 y13 (some (.int 0)) none) A4 := rfl
  have mk2 := make_ok (A := A4) (ρ := env sc n ps none w l s y9 y10 y11 y12 y13 (some (.int (lg n))) none) n8 rfl
  rw [St5.len] at mk2
  have s9 : sSet 15 (mMake "Winnow" m_Winnow__init (aCons (mV 2) aNil)) (env sc n ps none w l s y9 y10 y11 y12 y13 (some (.int (lg n))) none) A4 = .nx (env sc n ps none w l s y9 y10 y11 y12 y13 (some (.int (lg n))) (some (.ref 4))) (A4 ++ [win n (fun _ => 1) 0 0]) := by
    unfold sSet
    simp only [bS, mk2]
    rfl
  have hL : (A4 ++ [win n (fun _ => 1) 0 0])[4]? = some (win n (fun _ => 1) 0 0) := by rw [← St5.len]; simp
  have hT : (A4 ++ [win n (fun _ => 1) 0 0])[1]? = some (.tabL 1 "law.<locals>.<lambda>") := by rw [List.getElem?_append_left (by rw [St5.len]; decide)]; exact St5.lm
  have s10 : sIf (mOrT (asB (mB (eqD true) (mTold 1 "law.<locals>.<lambda>" told_hs ["BadExample"] tl_law_12) (mC (.str "example")))) (asB (mB (eqD true) (mFldC ["Winnow"] (mV 15) "lacks") (mC (.int 0))))) (sRet (mC (.bl false))) sNil (env sc n ps none w l s y9 y10 y11 y12 y13 (some (.int (lg n))) (some (.ref 4))) (A4 ++ [win n (fun _ => 1) 0 0]) = .nx (env sc n ps none w l s y9 y10 y11 y12 y13 (some (.int (lg n))) (some (.ref 4))) (A4 ++ [win n (fun _ => 1) 0 0]) := by
    have t1 := told_ok (ρ := env sc n ps none w l s y9 y10 y11 y12 y13 (some (.int (lg n))) (some (.ref 4))) n1 n8 rfl rfl hL hT
    have t2 := f_lacks (m := mV 15) (ρ := env sc n ps none w l s y9 y10 y11 y12 y13 (some (.int (lg n))) (some (.ref 4))) hL rfl
    unfold sIf mOrT asB mB
    simp only [bS, bd, t1, t2, mC, rd, op, eq_ex, eqD_int, ng, decide_true, Bool.not_true, ↓reduceIte, sNil]
  refine ⟨env sc n ps none w l s y9 y10 y11 y12 y13 (some (.int (lg n))) (some (.ref 4)), A4 ++ [win n (fun _ => 1) 0 0], ?_⟩
  unfold fb_law_13
  rw [seq_nx s1, seq_nx s2, seq_nx s3, seq_nx s4, seq_nx (g5_ok n1 n8 h2 I), seq_nx s6, seq_nx (pow_ok n8), seq_nx (g8_ok n1 n8 h2), seq_nx s9]
  exact s10
theorem math : Math := fun ns _ hbits => by
  obtain ⟨o, e, hD⟩ := rounds_ok hbits A0
  have e : m_law_rounds [.lst (ns.map .int), .int 1] A0 = .ok (.lst [.ref 2]) (A0 ++ [o]) := e
  have hD : Dice (A0 ++ [o]) 2 0 := hD
  obtain ⟨ρ', A', hb⟩ := body_ok (sc := .lst (ns.map .int)) (A := A0 ++ [o]) rfl rfl rfl hD
  have e0 : m_law [.lst (ns.map .int)] A0 = fin false 2 (b_law [some (.lst (ns.map .int)), none, none, none, none, none, none, none, none, none, none, none, none, none, none, none] A0) := rfl
  have hi : mIt seqB (mCall m_law_rounds (aCons (mV 0) (aCons (mC (.int 1)) aNil))) [some (.lst (ns.map .int)), none, none, none, none, none, none, none, none, none, none, none, none, none, none, none] A0 = .ok [.ref 2] (A0 ++ [o]) := by
    have a1 : aCons (mV 0) (aCons (mC (.int 1)) aNil) [some (.lst (ns.map .int)), none, none, none, none, none, none, none, none, none, none, none, none, none, none, none] A0 = .ok [.lst (ns.map .int), .int 1] A0 := aCons_ok rfl (aCons_ok rfl rfl)
    unfold mIt mCall
    simp only [bd, a1, e, op, seqB]
  have g1 : gN 1 (.ref 2) [some (.lst (ns.map .int)), none, none, none, none, none, none, none, none, none, none, none, none, none, none, none] = some [some (.lst (ns.map .int)), some (.ref 2), none, none, none, none, none, none, none, none, none, none, none, none, none, none] := rfl
  have s1 : sFor (mIt seqB (mCall m_law_rounds (aCons (mV 0) (aCons (mC (.int 1)) aNil)))) (gN 1) fb_law_13 [some (.lst (ns.map .int)), none, none, none, none, none, none, none, none, none, none, none, none, none, none, none] A0 = .nx ρ' A' := by
    unfold sFor
    simp only [bS, hi, forL, g1, hb, sNil]
  rw [e0]
  unfold b_law
  rw [seq_nx s1]
  exact ⟨_, rfl⟩
end Law

set_option Elab.async false
open PySem PySem.W PyProof.Rows
set_option maxRecDepth 100000 in
set_option maxHeartbeats 0 in
theorem PySem.Challenge.cw_lessonwright_k12_few_places_of_many_holds : PySem.Challenge.rw_lessonwright_k12_few_places_of_many.Holds := by
  w_on; o_law; k_head; (case hw => w_witness2)
  k_fill
  refine Sm.walk_all (l := PySem.Challenge.rw_lessonwright_k12_few_places_of_many) (n := 63) (k := 5) (x := "script") rfl (by decide) rfl ⟨rfl, by decide, by decide⟩ (fun w h Y => by first | exact PySem.W.kIn_of Y | exact PySem.W.km_in_of Y) ?F
  case F =>
    intro w mg fa h KX G hmg own
    refine' Law.all_mk KX G hmg ?aC_Winnow ?pg_Winnow ?hd_Winnow ?po_Winnow ?sa_Winnow ?mk_Winnow ?kc_Winnow ?na_Winnow_many ?na_Winnow_weights ?na_Winnow_lacks ?na_Winnow_spares ?aX_BadExample ?aX_BadWord ?aX_BadMachine ?aX_BadFormula ?aX_BadPaper ?aX_BadSize ?aX_BadText ?aX_BadStore ?aX_NoSuch ?eb_BadExample ?ei_BadExample ?kx_BadExample ?sx_BadExample ?tx_BadExample ?xm_BadExample_BadWord ?xm_BadExample_BadMachine ?xm_BadExample_BadFormula ?xm_BadExample_BadExample ?xm_BadExample_BadPaper ?xm_BadExample_BadSize ?xm_BadExample_BadText ?xm_BadExample_BadStore ?xm_BadExample_NoSuch ?a_law_dice ?l_law_dice ?c_law_dice_ ?k_law_dice ?a_law_rounds ?l_law_rounds ?c_law_rounds_ ?k_law_rounds ?a_Winnow__init ?i_Winnow__init ?l_Winnow__init ?c_Winnow__init_ ?k_Winnow__init ?a_law_roll ?l_law_roll ?c_law_roll_ ?k_law_roll ?a_logarithm ?l_logarithm ?c_logarithm_ ?k_logarithm ?a_most_winnow ?l_most_winnow ?c_most_winnow_ ?k_most_winnow ?a_is_any ?l_is_any ?c_is_any_ ?k_is_any ?lc_is_any ?v_is_any ?hc_is_any ?n_is_any ?a_Winnow__guess ?i_Winnow__guess ?l_Winnow__guess ?c_Winnow__guess_ ?k_Winnow__guess ?a_Winnow__see ?i_Winnow__see ?l_Winnow__see ?c_Winnow__see_ ?k_Winnow__see ?a_alive ?l_alive ?c_alive_ ?k_alive ?a_weight_of ?l_weight_of ?c_weight_of_ ?k_weight_of ?a_law ?l_law ?c_law_ ?k_law ?lc_law ?v_law ?hc_law ?n_law ?a_law_told ?l_law_told ?c_law_told_ ?k_law_told ?z_abs ?z_all ?z_any ?z_dict ?z_enumerate ?z_int ?z_len ?z_range ?z_sorted ?z_sum ?z_tuple ?z_zip ?nd ?own_is_any ?own_law Law.math
    (case aC_Winnow => k_is)
    (case pg_Winnow => k_is)
    (case hd_Winnow => k_is)
    (case po_Winnow => k_is)
    (case sa_Winnow => k_is)
    (case mk_Winnow => k_is)
    (case kc_Winnow => k_is)
    (case na_Winnow_many => k_is)
    (case na_Winnow_weights => k_is)
    (case na_Winnow_lacks => k_is)
    (case na_Winnow_spares => k_is)
    (case aX_BadExample => k_is)
    (case aX_BadWord => k_is)
    (case aX_BadMachine => k_is)
    (case aX_BadFormula => k_is)
    (case aX_BadPaper => k_is)
    (case aX_BadSize => k_is)
    (case aX_BadText => k_is)
    (case aX_BadStore => k_is)
    (case aX_NoSuch => k_is)
    (case eb_BadExample => exact PySem.F.excBase_ValueError)
    (case ei_BadExample => k_exc)
    (case kx_BadExample => k_is)
    (case sx_BadExample => k_is)
    (case tx_BadExample => k_is)
    (case xm_BadExample_BadWord => kernel_rfl)
    (case xm_BadExample_BadMachine => kernel_rfl)
    (case xm_BadExample_BadFormula => kernel_rfl)
    (case xm_BadExample_BadExample => kernel_rfl)
    (case xm_BadExample_BadPaper => kernel_rfl)
    (case xm_BadExample_BadSize => kernel_rfl)
    (case xm_BadExample_BadText => kernel_rfl)
    (case xm_BadExample_BadStore => kernel_rfl)
    (case xm_BadExample_NoSuch => kernel_rfl)
    (case a_law_dice => k_is)
    (case l_law_dice => k_is)
    (case c_law_dice_ => k_is)
    (case k_law_dice => k_is)
    (case a_law_rounds => k_is)
    (case l_law_rounds => k_is)
    (case c_law_rounds_ => k_is)
    (case k_law_rounds => k_is)
    (case a_Winnow__init => k_is)
    (case i_Winnow__init => k_is)
    (case l_Winnow__init => k_is)
    (case c_Winnow__init_ => k_is)
    (case k_Winnow__init => k_is)
    (case a_law_roll => k_is)
    (case l_law_roll => k_is)
    (case c_law_roll_ => k_is)
    (case k_law_roll => k_is)
    (case a_logarithm => k_is)
    (case l_logarithm => k_is)
    (case c_logarithm_ => k_is)
    (case k_logarithm => k_is)
    (case a_most_winnow => k_is)
    (case l_most_winnow => k_is)
    (case c_most_winnow_ => k_is)
    (case k_most_winnow => k_is)
    (case a_is_any => k_is)
    (case l_is_any => k_is)
    (case c_is_any_ => k_is)
    (case k_is_any => k_is)
    (case lc_is_any => k_is)
    (case v_is_any => rfl)
    (case hc_is_any => kernel_rfl)
    (case n_is_any => kernel_rfl)
    (case a_Winnow__guess => k_is)
    (case i_Winnow__guess => k_is)
    (case l_Winnow__guess => k_is)
    (case c_Winnow__guess_ => k_is)
    (case k_Winnow__guess => k_is)
    (case a_Winnow__see => k_is)
    (case i_Winnow__see => k_is)
    (case l_Winnow__see => k_is)
    (case c_Winnow__see_ => k_is)
    (case k_Winnow__see => k_is)
    (case a_alive => k_is)
    (case l_alive => k_is)
    (case c_alive_ => k_is)
    (case k_alive => k_is)
    (case a_weight_of => k_is)
    (case l_weight_of => k_is)
    (case c_weight_of_ => k_is)
    (case k_weight_of => k_is)
    (case a_law => k_is)
    (case l_law => k_is)
    (case c_law_ => k_is)
    (case k_law => k_is)
    (case lc_law => k_is)
    (case v_law => rfl)
    (case hc_law => kernel_rfl)
    (case n_law => kernel_rfl)
    (case a_law_told => k_is)
    (case l_law_told => k_is)
    (case c_law_told_ => k_is)
    (case k_law_told => k_is)
    (case z_abs => k_is)
    (case z_all => k_is)
    (case z_any => k_is)
    (case z_dict => k_is)
    (case z_enumerate => k_is)
    (case z_int => k_is)
    (case z_len => k_is)
    (case z_range => k_is)
    (case z_sorted => k_is)
    (case z_sum => k_is)
    (case z_tuple => k_is)
    (case z_zip => k_is)
    (case nd => decide)
    (case own_is_any => exact fun e => own _ _ (by kernel_rfl) e)
    (case own_law => exact fun e => own _ _ (by kernel_rfl) e)

