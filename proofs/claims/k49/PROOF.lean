import PyProof.Rows.All
import Wide.All
import OpenK.AllK
import Wide.FinOn
import HandS.ForMost
import HandS.ForExc
import HandS.IsInst
import HandS.Deep
import HandS.TupAny
import HandS.Text
import HandS.Defaults
import PyProof.ReprRoads
import HandS.Wide
import PyProof.StrOps2
import HandS.CallSlots
import HandS.NoneIn
import PyProof.Draws
import PyProof.EnumMake
import HandS.Iter
import HandS.Zip0
import HandS.Gcd
import HandS.ExcField
import HandS.ExcInit
import KE.KExcIs
import HandS.Ends
import HandS.MakeKw
import HandS.HeadEnd
import PySem.Challenge.RW_headsheard_k49_sayings_checked_in_order
set_option Elab.async false
set_option linter.all false
set_option maxRecDepth 100000
set_option maxHeartbeats 8000000
set_option exponentiation.threshold 20000
namespace Z
open PySem PySem.Spec PyProof.Rows L2

/-- plain data -/
inductive D where
  | non | bl (b : Bool) | int (i : Int) | str (s : Str)
  | tup (xs : List D) | lst (xs : List D) | scr (ns : List Int)
  | obj (c : Nat) (fs : List (Str × D)) | mref (k : Nat) | dic
  deriving Inhabited

mutual
inductive R (K : PySem.W.Frag) (cl : Nat → Option Addr) (al : List Addr) (H : Hp) : V → D → Prop
  | non : R K cl al H .non .non
  | bl (b : Bool) : R K cl al H (.bl b) (.bl b)
  | int (i : Int) : R K cl al H (.int i) (.int i)
  | str (x : Str) : R K cl al H (.str x) (.str x)
  | tup {a : Addr} {xs : List V} {ds : List D} : SqT K H a xs → Rs K cl al H xs ds → R K cl al H (.ref a) (.tup ds)
  | lst {a : Addr} {xs : List V} {ds : List D} : H a = some (.lst xs) → Rs K cl al H xs ds → R K cl al H (.ref a) (.lst ds)
  | scr {a : Addr} {ns : List Int} : SqL K H a (ns.map V.int) → R K cl al H (.ref a) (.scr ns)
  | obj {a C dx : Addr} {c : Nat} {fv : List (Str × V)} {fs : List (Str × D)} : H a = some (.ins C dx fv) → cl c = some C → Rf K cl al H fv fs → R K cl al H (.ref a) (.obj c fs)
  | mref {a : Addr} {k : Nat} : al[k]? = some a → R K cl al H (.ref a) (.mref k)
  | dic {a : Addr} {kvs : List (Key × V)} : H a = some (.dK kvs) → R K cl al H (.ref a) .dic
inductive Rs (K : PySem.W.Frag) (cl : Nat → Option Addr) (al : List Addr) (H : Hp) : List V → List D → Prop
  | nil : Rs K cl al H [] []
  | cons {v : V} {vs : List V} {d : D} {ds : List D} : R K cl al H v d → Rs K cl al H vs ds → Rs K cl al H (v :: vs) (d :: ds)
inductive Rf (K : PySem.W.Frag) (cl : Nat → Option Addr) (al : List Addr) (H : Hp) : List (Str × V) → List (Str × D) → Prop
  | nil : Rf K cl al H [] []
  | cons {n : Str} {v : V} {vs : List (Str × V)} {d : D} {ds : List (Str × D)} : R K cl al H v d → Rf K cl al H vs ds → Rf K cl al H ((n, v) :: vs) ((n, d) :: ds)
end
theorem sqT_mono {K : PySem.W.Frag} {H H' : Hp} {a : Addr} {xs : List V} (e : ∀ a o, H a = some o → H' a = some o) (h : SqT K H a xs) : SqT K H' a xs := by
  rcases h with (h | ⟨o, h⟩) | h
  · exact .inl (.inl (e _ _ h))
  · exact .inl (.inr ⟨o, e _ _ h⟩)
  · exact .inr h
theorem sqL_mono {K : PySem.W.Frag} {H H' : Hp} {a : Addr} {xs : List V} (e : ∀ a o, H a = some o → H' a = some o) (h : SqL K H a xs) : SqL K H' a xs := by
  rcases h with (h | ⟨o, h⟩) | h
  · exact .inl (.inl (e _ _ h))
  · exact .inl (.inr ⟨o, e _ _ h⟩)
  · exact .inr h
section
variable {K : PySem.W.Frag} {cl : Nat → Option Addr} {al al' : List Addr} {H H' : Hp}
mutual
theorem R.mono (e : ∀ a o, H a = some o → H' a = some o) (ea : ∀ (k : Nat) (a : Addr), al[k]? = some a → al'[k]? = some a) : ∀ {d : D} {v : V}, R K cl al H v d → R K cl al' H' v d
  | _, _, .non => .non
  | _, _, .bl b => .bl b
  | _, _, .int i => .int i
  | _, _, .str x => .str x
  | _, _, .tup h r => .tup (sqT_mono e h) (Rs.mono e ea r)
  | _, _, .lst h r => .lst (e _ _ h) (Rs.mono e ea r)
  | _, _, .scr h => .scr (sqL_mono e h)
  | _, _, .obj h c r => .obj (e _ _ h) c (Rf.mono e ea r)
  | _, _, .mref h => .mref (ea _ _ h)
  | _, _, .dic h => .dic (e _ _ h)
theorem Rs.mono (e : ∀ a o, H a = some o → H' a = some o) (ea : ∀ (k : Nat) (a : Addr), al[k]? = some a → al'[k]? = some a) : ∀ {ds : List D} {vs : List V}, Rs K cl al H vs ds → Rs K cl al' H' vs ds
  | _, _, .nil => .nil
  | _, _, .cons r t => .cons (R.mono e ea r) (Rs.mono e ea t)
theorem Rf.mono (e : ∀ a o, H a = some o → H' a = some o) (ea : ∀ (k : Nat) (a : Addr), al[k]? = some a → al'[k]? = some a) : ∀ {ds : List (Str × D)} {vs : List (Str × V)}, Rf K cl al H vs ds → Rf K cl al' H' vs ds
  | _, _, .nil => .nil
  | _, _, .cons r t => .cons (R.mono e ea r) (Rf.mono e ea t)
end
theorem Rs.length : ∀ {ds : List D} {vs : List V}, Rs K cl al H vs ds → vs.length = ds.length
  | _, _, .nil => rfl
  | _, _, .cons _ t => by simp [Rs.length t]
theorem Rs.get : ∀ {ds : List D} {vs : List V} {i : Nat} {d : D}, Rs K cl al H vs ds → ds[i]? = some d → ∃ v, vs[i]? = some v ∧ R K cl al H v d
  | _, _, _, _, .nil, e => by simp at e
  | _, _, 0, _, .cons r _, e => by simp at e; subst e; exact ⟨_, rfl, r⟩
  | _, _, i + 1, _, .cons _ t, e => by
    obtain ⟨v, a, b⟩ := Rs.get (i := i) t (by simpa using e)
    exact ⟨v, by simpa using a, b⟩
theorem Rs.get' {ds : List D} {vs : List V} {i : Nat} {v : V} (r : Rs K cl al H vs ds) (e : vs[i]? = some v) : ∃ d, ds[i]? = some d ∧ R K cl al H v d := by
  have hl := r.length
  have hi : i < ds.length := by rw [← hl]; exact (List.getElem?_eq_some_iff.mp e).1
  obtain ⟨v', a, b⟩ := r.get (List.getElem?_eq_getElem hi)
  rw [e] at a; cases a
  exact ⟨_, List.getElem?_eq_getElem hi, b⟩
theorem Rs.append : ∀ {ds es : List D} {vs us : List V}, Rs K cl al H vs ds → Rs K cl al H us es → Rs K cl al H (vs ++ us) (ds ++ es)
  | _, _, _, _, .nil, s => s
  | _, _, _, _, .cons r t, s => .cons r (Rs.append t s)
theorem Rs.one {v : V} {d : D} (r : R K cl al H v d) : Rs K cl al H [v] [d] := .cons r .nil
theorem Rs.take : ∀ {ds : List D} {vs : List V} (n : Nat), Rs K cl al H vs ds → Rs K cl al H (vs.take n) (ds.take n)
  | _, _, 0, _ => .nil
  | _, _, _ + 1, .nil => .nil
  | _, _, n + 1, .cons r t => .cons r (Rs.take n t)
theorem Rs.drop : ∀ {ds : List D} {vs : List V} (n : Nat), Rs K cl al H vs ds → Rs K cl al H (vs.drop n) (ds.drop n)
  | _, _, 0, r => r
  | _, _, _ + 1, .nil => .nil
  | _, _, n + 1, .cons _ t => Rs.drop n t
theorem Rs.set : ∀ {ds : List D} {vs : List V} {v : V} {d : D} (n : Nat), Rs K cl al H vs ds → R K cl al H v d → Rs K cl al H (vs.set n v) (ds.set n d)
  | _, _, _, _, _, .nil, _ => .nil
  | _, _, _, _, 0, .cons _ t, r => .cons r t
  | _, _, _, _, n + 1, .cons q t, r => .cons q (Rs.set n t r)
theorem Rs.rev : ∀ {ds : List D} {vs : List V}, Rs K cl al H vs ds → Rs K cl al H vs.reverse ds.reverse
  | _, _, .nil => .nil
  | _, _, .cons r t => by
    rw [List.reverse_cons, List.reverse_cons]
    exact (Rs.rev t).append (.one r)
theorem Rs.ints : ∀ {ns : List Int}, Rs K cl al H (ns.map V.int) (ns.map D.int)
  | [] => .nil
  | n :: r => .cons (.int n) (Rs.ints (ns := r))
theorem Rs.toInts : ∀ {ns : List Int} {vs : List V}, Rs K cl al H vs (ns.map D.int) → vs = ns.map V.int
  | [], _, .nil => rfl
  | n :: r, _, .cons h t => by
    cases h
    rw [Rs.toInts t]
    rfl
theorem Rf.get : ∀ {ds : List (Str × D)} {vs : List (Str × V)} {f : Str} {d : D}, Rf K cl al H vs ds → ds.lookup f = some d → ∃ v, vs.lookup f = some v ∧ R K cl al H v d
  | _, _, _, _, .nil, e => by simp at e
  | _, _, f, d, .cons (n := n) (v := v) (d := d') r t, e => by
    rw [List.lookup_cons] at e ⊢
    cases hb : f == n with
    | true =>
      rw [hb] at e
      cases e
      exact ⟨v, rfl, r⟩
    | false =>
      rw [hb] at e
      exact Rf.get t e
end
/-- what the text's facts are: the written part, the classes' addresses by number -/
structure G where
  K : PySem.W.Frag
  cl : Nat → Option Addr
  /-- the classes of objects -/
  ol : Nat → Option Addr
  /-- the exception in hand: its address, its dict's, its class's number -/
  xa : Option (Addr × Option Addr × Nat)
/-- a world: the addresses of the mutable things, the frozen heap, the heap -/
structure Ws where
  al : List Addr
  Hf : Hp
  H : Hp
abbrev Rw (g : G) (w : Ws) (v : V) (d : D) : Prop := R g.K g.ol w.al w.Hf v d
abbrev Rws (g : G) (w : Ws) (v : List V) (d : List D) : Prop := Rs g.K g.ol w.al w.Hf v d
/-- an own (or mutable) object by its data -/
inductive RO (g : G) (w : Ws) : HO → D → Prop
  | lst {xs : List V} {ds : List D} : Rws g w xs ds → RO g w (.lst xs) (.lst ds)
  | ins {C dx : Addr} {c : Nat} {fv : List (Str × V)} {fs : List (Str × D)} : g.ol c = some C → Rf g.K g.ol w.al w.Hf fv fs → RO g w (.ins C dx fv) (.obj c fs)
inductive Sl where
  | un | im (d : D) | ow (d : D) | br (d : D) | xc (c : Nat) (fs : List (Str × D))
  deriving Inhabited
abbrev En := List Sl

structure Step (w w' : Ws) : Prop where
  pa : ∃ b, w'.al = w.al ++ b
  hf : ∀ a o, w.Hf a = some o → w'.Hf a = some o
  hh : ∀ a o, w.H a = some o → a ∉ w.al → w'.H a = some o
  an : ∀ a, a ∈ w'.al → a ∉ w.al → w.H a = none
theorem Step.refl (w : Ws) : Step w w := ⟨⟨[], by simp⟩, fun _ _ h => h, fun _ _ h _ => h, fun _ h h' => absurd h h'⟩
theorem Step.trans {w w1 w2 : Ws} (s : Step w w1) (t : Step w1 w2) : Step w w2 := by
  obtain ⟨⟨b, pa⟩, hf, hh, an⟩ := s
  obtain ⟨⟨b', pa'⟩, hf', hh', an'⟩ := t
  refine ⟨⟨b ++ b', by rw [pa', pa, List.append_assoc]⟩, fun a o h => hf' a o (hf a o h), fun a o h na => hh' a o (hh a o h na) fun hm => ?_, fun a hm na => ?_⟩
  · rw [an a hm na] at h; cases h
  · by_cases h1 : a ∈ w1.al
    · exact an a h1 na
    · have z := an' a hm h1
      cases q : w.H a with
      | none => rfl
      | some o => rw [hh a o q na] at z; cases z
theorem Step.al {w w' : Ws} (s : Step w w') : ∀ (k : Nat) (a : Addr), w.al[k]? = some a → w'.al[k]? = some a := fun k a h => by
  obtain ⟨b, e⟩ := s.pa
  rw [e, List.getElem?_append_left (List.getElem?_eq_some_iff.mp h).1]
  exact h
theorem Step.mem {w w' : Ws} (s : Step w w') {a : Addr} (h : a ∈ w.al) : a ∈ w'.al := by
  obtain ⟨b, e⟩ := s.pa
  rw [e]; exact List.mem_append_left _ h
theorem Step.r {g : G} {w w' : Ws} (s : Step w w') {v : V} {d : D} (h : Rw g w v d) : Rw g w' v d := h.mono s.hf s.al
theorem Step.rs {g : G} {w w' : Ws} (s : Step w w') {v : List V} {d : List D} (h : Rws g w v d) : Rws g w' v d := h.mono s.hf s.al
theorem Step.rf {g : G} {w w' : Ws} (s : Step w w') {v : List (Str × V)} {d : List (Str × D)} (h : Rf g.K g.ol w.al w.Hf v d) : Rf g.K g.ol w'.al w'.Hf v d := h.mono s.hf s.al
theorem Step.ro {g : G} {w w' : Ws} (s : Step w w') {o : HO} {d : D} (h : RO g w o d) : RO g w' o d := by
  cases h with
  | lst r => exact .lst (s.rs r)
  | ins c r => exact .ins c (s.rf r)

/-- a value that is read: frozen, or an object that stands by itself -/
def Tr (g : G) (w : Ws) (v : V) (d : D) : Prop := Rw g w v d ∨ ∃ a o, v = .ref a ∧ w.H a = some o ∧ a ∉ w.al ∧ RO g w o d

/-- an exception's dict by its fields -/
def XD (g : G) (w : Ws) (d : Option Addr) (fs : List (Str × D)) : Prop := (d = none ∧ fs = []) ∨ ∃ dx fv, d = some dx ∧ w.Hf dx = some (.xd fv) ∧ Rf g.K g.ol w.al w.Hf fv fs
/-- a slot that holds the exception in hand -/
def XS (g : G) (w : Ws) (v : Option (Option V)) (c : Nat) (fs : List (Str × D)) : Prop := ∃ a d, g.xa = some (a, d, c) ∧ v = some (some (.ref a)) ∧ XD g w d fs
theorem Step.xd {g : G} {w w' : Ws} (S : Step w w') {d : Option Addr} {fs : List (Str × D)} (h : XD g w d fs) : XD g w' d fs := by
  rcases h with h | ⟨dx, fv, e, h, r⟩
  · exact .inl h
  · exact .inr ⟨dx, fv, e, S.hf _ _ h, S.rf r⟩
theorem Step.xs {g : G} {w w' : Ws} (S : Step w w') {v : Option (Option V)} {c : Nat} {fs : List (Str × D)} (h : XS g w v c fs) : XS g w' v c fs := by
  obtain ⟨a, d, e, e2, h⟩ := h
  exact ⟨a, d, e, e2, S.xd h⟩

structure Base (g : G) (w : Ws) (s : List D) : Prop where
  fz : ∀ a o, w.Hf a = some o → w.H a = some o ∧ a ∉ w.al
  sl : s.length = w.al.length
  st : ∀ (k : Nat) a, w.al[k]? = some a → ∃ d o, s[k]? = some d ∧ w.H a = some o ∧ RO g w o d
  nd : w.al.Nodup
/-- relative to the entry w0 -/
structure Good (g : G) (w0 w : Ws) (ρ : En) (s : List D) (σ : L2.St) : Prop where
  base : Base g w s
  ext : Step w0 w
  new : ∀ a o, w0.Hf a = none → w0.H a = some o → w.Hf a = none
  len : σ.length = ρ.length
  im : ∀ (i : Nat) d, ρ[i]? = some (.im d) → ∃ v, σ[i]? = some (some v) ∧ Rw g w v d
  ow : ∀ (i : Nat) d, ρ[i]? = some (.ow d) → ∃ a o, σ[i]? = some (some (.ref a)) ∧ w.H a = some o ∧ RO g w o d ∧ w.Hf a = none ∧ a ∉ w.al ∧ w0.H a = none
  br : ∀ (i : Nat) d, ρ[i]? = some (.br d) → ∃ v, σ[i]? = some (some v) ∧ Tr g w0 v d
  dis : ∀ (i j : Nat) d e a, ρ[i]? = some (.ow d) → ρ[j]? = some (.ow e) → σ[i]? = some (some (.ref a)) → σ[j]? = some (some (.ref a)) → i = j
  xc : ∀ (i : Nat) c fs, ρ[i]? = some (.xc c fs) → XS g w σ[i]? c fs
theorem Base.alive {g : G} {w : Ws} {s : List D} (b : Base g w s) {a : Addr} (h : a ∈ w.al) : ∃ o, w.H a = some o := by
  obtain ⟨k, e⟩ := List.mem_iff_getElem?.mp h
  obtain ⟨_, o, _, h, _⟩ := b.st k a e
  exact ⟨o, h⟩
theorem Base.fresh {g : G} {w : Ws} {s : List D} (b : Base g w s) {a : Addr} (h : w.H a = none) : a ∉ w.al ∧ w.Hf a = none := by
  refine ⟨fun hm => ?_, ?_⟩
  · obtain ⟨o, e⟩ := b.alive hm
    rw [h] at e; cases e
  · cases q : w.Hf a with
    | none => rfl
    | some o => rw [(b.fz a o q).1] at h; cases h

def Ws.upF (w : Ws) (p : Addr) (o : HO) : Ws := ⟨w.al, upd w.Hf p o, upd w.H p o⟩
def Ws.up (w : Ws) (p : Addr) (o : HO) : Ws := ⟨w.al, w.Hf, upd w.H p o⟩
def Ws.frz (w : Ws) (p : Addr) (o : HO) : Ws := ⟨w.al, upd w.Hf p o, w.H⟩
theorem upd_get {H : Hp} {p a : Addr} {o u : HO} (h : upd H p o a = some u) : (a = p ∧ u = o) ∨ (a ≠ p ∧ H a = some u) := by
  by_cases e : a = p
  · subst e; rw [upd_same] at h; cases h; exact .inl ⟨rfl, rfl⟩
  · rw [upd_ne e] at h; exact .inr ⟨e, h⟩
section
variable {g : G} {w0 w w' : Ws} {ρ : En} {s : List D} {σ : L2.St} {p : Addr} {o : HO}
theorem step_upF (b : Base g w s) (h : w.H p = none) : Step w (w.upF p o) := by
  obtain ⟨h1, h2⟩ := b.fresh h
  exact ⟨⟨[], by simp [Ws.upF]⟩, fun a u e => by show upd _ _ _ _ = _; rw [upd_ne (ne_of_none e h2)]; exact e, fun a u e _ => by show upd _ _ _ _ = _; rw [upd_ne (ne_of_none e h)]; exact e, fun a h h' => absurd h h'⟩
theorem step_up (b : Base g w s) (h : w.H p = none) : Step w (w.up p o) :=
  ⟨⟨[], by simp [Ws.up]⟩, fun a u e => e, fun a u e _ => by show upd _ _ _ _ = _; rw [upd_ne (ne_of_none e h)]; exact e, fun a h h' => absurd h h'⟩
theorem step_frz (b : Base g w s) (h : w.Hf p = none) : Step w (w.frz p o) :=
  ⟨⟨[], by simp [Ws.frz]⟩, fun a u e => by show upd _ _ _ _ = _; rw [upd_ne (ne_of_none e h)]; exact e, fun a u e _ => e, fun a h h' => absurd h h'⟩
theorem Base.upF (b : Base g w s) (h : w.H p = none) : Base g (w.upF p o) s := by
  have S : Step w (w.upF p o) := step_upF b h
  obtain ⟨h1, h2⟩ := b.fresh h
  refine ⟨fun a u e => ?_, b.sl, fun k a e => ?_, b.nd⟩
  · rcases upd_get e with ⟨rfl, rfl⟩ | ⟨ne, e⟩
    · exact ⟨upd_same, h1⟩
    · exact ⟨by show upd _ _ _ _ = _; rw [upd_ne ne]; exact (b.fz a u e).1, (b.fz a u e).2⟩
  · obtain ⟨d, u, e1, e2, e3⟩ := b.st k a e
    exact ⟨d, u, e1, by show upd _ _ _ _ = _; rw [upd_ne (ne_of_none e2 h)]; exact e2, S.ro e3⟩
theorem Base.up (b : Base g w s) (h : w.H p = none) : Base g (w.up p o) s := by
  have S : Step w (w.up p o) := step_up b h
  obtain ⟨h1, h2⟩ := b.fresh h
  refine ⟨fun a u e => ?_, b.sl, fun k a e => ?_, b.nd⟩
  · exact ⟨by show upd _ _ _ _ = _; rw [upd_ne (ne_of_none e h2)]; exact (b.fz a u e).1, (b.fz a u e).2⟩
  · obtain ⟨d, u, e1, e2, e3⟩ := b.st k a e
    exact ⟨d, u, e1, by show upd _ _ _ _ = _; rw [upd_ne (ne_of_none e2 h)]; exact e2, S.ro e3⟩
theorem Base.frz (b : Base g w s) (h : w.Hf p = none) (ha : w.H p = some o) (hn : p ∉ w.al) : Base g (w.frz p o) s := by
  have S : Step w (w.frz p o) := step_frz b h
  refine ⟨fun a u e => ?_, b.sl, fun k a e => ?_, b.nd⟩
  · rcases upd_get e with ⟨rfl, rfl⟩ | ⟨ne, e⟩
    · exact ⟨ha, hn⟩
    · exact b.fz a u e
  · obtain ⟨d, u, e1, e2, e3⟩ := b.st k a e
    exact ⟨d, u, e1, e2, S.ro e3⟩
/-- a new frozen thing -/
theorem Good.upF (G0 : Good g w0 w ρ s σ) (h : w.H p = none) : Good g w0 (w.upF p o) ρ s σ := by
  have S : Step w (w.upF p o) := step_upF G0.base h
  refine ⟨G0.base.upF h, G0.ext.trans S, fun a u e1 e2 => ?_, G0.len, fun i d e => ?_, fun i d e => ?_, G0.br, G0.dis, fun i c fs e => S.xs (G0.xc i c fs e)⟩
  · have z := G0.new a u e1 e2
    by_cases ha : a ∈ w0.al
    · obtain ⟨u', hu⟩ := G0.base.alive (G0.ext.mem ha)
      show upd _ _ _ _ = _
      rw [upd_ne (ne_of_none hu h)]; exact z
    · have hu := G0.ext.hh a u e2 ha
      show upd _ _ _ _ = _
      rw [upd_ne (ne_of_none hu h)]; exact z
  · obtain ⟨v, e1, r⟩ := G0.im i d e
    exact ⟨v, e1, S.r r⟩
  · obtain ⟨a, u, e1, e2, e3, e4, e5, e6⟩ := G0.ow i d e
    have ne : a ≠ p := ne_of_none e2 h
    exact ⟨a, u, e1, by show upd _ _ _ _ = _; rw [upd_ne ne]; exact e2, S.ro e3, by show upd _ _ _ _ = _; rw [upd_ne ne]; exact e4, e5, e6⟩
theorem Good.up (G0 : Good g w0 w ρ s σ) (h : w.H p = none) : Good g w0 (w.up p o) ρ s σ := by
  have S : Step w (w.up p o) := step_up G0.base h
  refine ⟨G0.base.up h, G0.ext.trans S, G0.new, G0.len, fun i d e => ?_, fun i d e => ?_, G0.br, G0.dis, fun i c fs e => S.xs (G0.xc i c fs e)⟩
  · obtain ⟨v, e1, r⟩ := G0.im i d e
    exact ⟨v, e1, S.r r⟩
  · obtain ⟨a, u, e1, e2, e3, e4, e5, e6⟩ := G0.ow i d e
    have ne : a ≠ p := ne_of_none e2 h
    exact ⟨a, u, e1, by show upd _ _ _ _ = _; rw [upd_ne ne]; exact e2, S.ro e3, e4, e5, e6⟩
/-- a thing that is no slot's own is frozen -/
theorem Good.frz (G0 : Good g w0 w ρ s σ) (h : w.Hf p = none) (ha : w.H p = some o) (hn : p ∉ w.al) (h0 : w0.H p = none) (ho : ∀ (i : Nat) d, ρ[i]? = some (.ow d) → σ[i]? ≠ some (some (.ref p))) : Good g w0 (w.frz p o) ρ s σ := by
  have S : Step w (w.frz p o) := step_frz G0.base h
  refine ⟨G0.base.frz h ha hn, G0.ext.trans S, fun a u e1 e2 => ?_, G0.len, fun i d e => ?_, fun i d e => ?_, G0.br, G0.dis, fun i c fs e => S.xs (G0.xc i c fs e)⟩
  · show upd _ _ _ _ = _
    rw [upd_ne (ne_of_none e2 h0)]; exact G0.new a u e1 e2
  · obtain ⟨v, e1, r⟩ := G0.im i d e
    exact ⟨v, e1, S.r r⟩
  · obtain ⟨a, u, e1, e2, e3, e4, e5, e6⟩ := G0.ow i d e
    have ne : a ≠ p := fun z => ho i d e (by rw [e1, z])
    exact ⟨a, u, e1, e2, S.ro e3, by show upd _ _ _ _ = _; rw [upd_ne ne]; exact e4, e5, e6⟩
end
end Z

namespace Z
open PySem PySem.Spec PyProof.Rows L2

/-! the plain machine: expressions over plain data -/
inductive Bo where | add | sub | mul | fdiv | mod | pow
  deriving DecidableEq
inductive Co where | eq | ne | lt | le | gt | ge | isN | notN | inn | nin
  deriving DecidableEq
inductive Bf where | len | sum | int | tuple | list | max2 | min2 | abs | str | all | any | maxl | minl | repr | dget (kvs : List (Str × Option Int))
  deriving DecidableEq
inductive Ty where | int | bool | str | list | tuple | own (c : Nat)
  deriving DecidableEq
inductive Tg where | nm (i : Nat) | tp (ts : List Tg)
/-- what is called: the name, how many arguments by place, the keywords -/
abbrev CK := Str × Nat × List Str
mutual
inductive Ex where
  | c (d : D) | v (i : Nat) | bv (i : Nat) | sv (i : Nat)
  | tup (es : List Ex) | lst (es : List Ex)
  | bin (op : Bo) (a b : Ex)
  | cat (a b : Ex)
  | cmp (op : Co) (a b : Ex)
  | ch (op op' : Co) (a b c : Ex)
  | neg (a : Ex)
  | nt (a : Ex) | an (a b : Ex) | orr (a b : Ex)
  | ife (t a b : Ex)
  | ix (a b : Ex)
  | call (f : CK) (ms : List Bool) (es : List Ex)
  | blt (f : Bf) (es : List Ex)
  | isi (a : Ex) (ts : List Ty)
  | sli (f g : Bool) (a b c : Ex) | joi (x : Str) (b : Ex)
  | gcd (a b : Ex) | dicE | fx (i : Nat) (f : Str) | isx (i : Nat) (ks : List Nat)
  | lc (fz vs : List Nat) (tg : Tg) (it : It) (co : Option Ex) (el : Ex)
  | lc2 (fz vs vs1 : List Nat) (tg : Tg) (it : It) (co : Option Ex) (tg1 : Tg) (it1 : It) (co1 : Option Ex) (el : Ex)
inductive It where
  | seq (e : Ex) | rng1 (a : Ex) | rng2 (a b : Ex) | enm (e : Ex)
end
/-- what comes of an expression -/
inductive Out where
  | ok (d : D) (ρ : En) (s : List D)
  | exc (c : Nat) (fs : List (Str × D)) (ρ : En) (s : List D)
  | bad
inductive OutL where
  | ok (ds : List D) (ρ : En) (s : List D)
  | exc (c : Nat) (fs : List (Str × D)) (ρ : En) (s : List D)
  | bad
/-- what comes of a call -/
inductive Ou where
  | ok (d : D) (s : List D)
  | exc (c : Nat) (fs : List (Str × D)) (s : List D)
  | bad
abbrev Fn := List D → List D → Ou
abbrev Fs := CK → Option Fn
def Out.bind (o : Out) (k : D → En → List D → Out) : Out := match o with
  | .ok d ρ s => k d ρ s
  | .exc c fs ρ s => .exc c fs ρ s
  | .bad => .bad
def Out.bindL (o : Out) (k : D → En → List D → OutL) : OutL := match o with
  | .ok d ρ s => k d ρ s
  | .exc c fs ρ s => .exc c fs ρ s
  | .bad => .bad
def OutL.bind (o : OutL) (k : List D → En → List D → Out) : Out := match o with
  | .ok d ρ s => k d ρ s
  | .exc c fs ρ s => .exc c fs ρ s
  | .bad => .bad
def OutL.bindL (o : OutL) (k : List D → En → List D → OutL) : OutL := match o with
  | .ok d ρ s => k d ρ s
  | .exc c fs ρ s => .exc c fs ρ s
  | .bad => .bad
def Out.get (o : Option D) (ρ : En) (s : List D) : Out := match o with
  | some d => .ok d ρ s
  | none => .bad
@[simp] theorem Out.bind_ok (d ρ s k) : (Out.ok d ρ s).bind k = k d ρ s := rfl
@[simp] theorem Out.bind_exc (c fs ρ s k) : (Out.exc c fs ρ s).bind k = .exc c fs ρ s := rfl
@[simp] theorem Out.bind_bad (k) : Out.bad.bind k = .bad := rfl
@[simp] theorem Out.bindL_ok (d ρ s k) : (Out.ok d ρ s).bindL k = k d ρ s := rfl
@[simp] theorem OutL.bind_ok (d ρ s k) : (OutL.ok d ρ s).bind k = k d ρ s := rfl
@[simp] theorem OutL.bindL_ok (d ρ s k) : (OutL.ok d ρ s).bindL k = k d ρ s := rfl
@[simp] theorem Out.get_some (d ρ s) : Out.get (some d) ρ s = .ok d ρ s := rfl

mutual
def py : D → Option PyData
  | .non => some .none | .bl b => some (.bool b) | .int i => some (.int i) | .str s => some (.str s)
  | .tup xs => (pys xs).map .tuple
  | .lst xs => (pys xs).map .list
  | _ => none
def pys : List D → Option (List PyData)
  | [] => some []
  | d :: ds => match py d, pys ds with
    | some a, some b => some (a :: b)
    | _, _ => none
end
def eqD (a b : D) : Option Bool := match py a, py b with
  | some x, some y => if SeqAt.shaped x && SeqAt.shaped y then some (PyData.eqv x y) else none
  | _, _ => none
/-- == : scalars first -/
def eqS : D → D → Option Bool
  | .int i, .int j => some (decide (i = j))
  | .str x, .str y => some (decide (x = y))
  | .bl x, .bl y => some (decide (x = y))
  | a, b => eqD a b
def cap (n : Nat) : Bool := decide (n ≤ 100000)
/-- a text n times -/
def repS (x : Str) (n : Int) : Str := if n < 1 then Str.empty else if (n == 1 || x.length == 0) = true then x else ⟨(List.replicate n.toNat x.cps).foldl (· ++ ·) #[]⟩
def binD : Bo → D → D → Option D
  | .add, .int i, .int j => some (.int (i + j))
  | .add, .str x, .str y => if cap (x.length + y.length) then some (.str (x ++ y)) else none
  | .mul, .str x, .int n => if 0 ≤ n ∧ n ≤ 100000 ∧ cap (x.length * n.toNat) = true then some (.str (repS x n)) else none
  | .add, .tup x, .tup y => if cap (x.length + y.length) then some (.tup (x ++ y)) else none
  | .sub, .int i, .int j => some (.int (i - j))
  | .mul, .int i, .int j => if i.natAbs.log2 + j.natAbs.log2 < 1000000 then some (.int (i * j)) else none
  | .fdiv, .int i, .int j => if 0 < j ∧ j.natAbs.log2 < 9000 then some (.int (i / j)) else none
  | .mod, .int i, .int j => if 0 < j then some (.int (i % j)) else none
  | .pow, .int i, .int j => if 0 ≤ j ∧ j ≤ 1000000 ∧ i.natAbs < 2 ^ 64 then some (.int (i ^ j.toNat)) else if 0 ≤ j ∧ (PySem.Builtin.Int.intBits i : Int) * j ≤ 2 ^ 27 then some (.int (i ^ j.toNat)) else none
  | _, _, _ => none
def intsOf : List D → Option (List Int)
  | [] => some []
  | .int i :: r => (intsOf r).map (i :: ·)
  | _ => none
def memD (x : D) (y : D) : Option Bool :=
  match y with
  | .lst xs => match py x, pys xs with
    | some d, some ds => if SeqAt.shaped d && SeqAt.shaped (.list ds) then some (ds.any fun z => PyData.eqv z d) else none
    | _, _ => none
  | .tup xs => match py x, pys xs with
    | some d, some ds => if SeqAt.shaped d && SeqAt.shaped (.tuple ds) then some (ds.any fun z => PyData.eqv z d) else none
    | _, _ => none
  | .str z => match x with
    | .str y => match y.cps with
      | ⟨[c]⟩ => some (decide (c ∈ z.cps.toList))
      | _ => none
    | _ => none
  | _ => none
def isNon : D → Bool
  | .non => true
  | _ => false
def cmpD : Co → D → D → Option Bool
  | .eq, a, b => eqS a b
  | .ne, a, b => (eqS a b).map (!·)
  | .lt, .int i, .int j => some (decide (i < j))
  | .lt, .tup a, .tup b => match intsOf a, intsOf b with
    | some x, some y => some (HT.lexLt x y)
    | _, _ => none
  | .lt, .str x, .str y => some (decide (x.cps.toList < y.cps.toList))
  | .le, .int i, .int j => some (decide (i ≤ j))
  | .le, .str x, .str y => some (!decide (y.cps.toList < x.cps.toList))
  | .gt, .int i, .int j => some (decide (j < i))
  | .ge, .int i, .int j => some (decide (j ≤ i))
  | .isN, d, .non => some (isNon d)
  | .notN, d, .non => some (!isNon d)
  | .inn, a, b => memD a b
  | .nin, a, b => (memD a b).map (!·)
  | _, _, _ => none
def truth : D → Option Bool
  | .non => some false
  | .bl b => some b
  | .int i => some (i != 0)
  | .tup xs => some (!xs.isEmpty)
  | .lst xs => some (!xs.isEmpty)
  | _ => none
def ixD (s : List D) : D → D → Option D
  | .tup xs, .int i => atI xs i
  | .lst xs, .int i => atI xs i
  | .scr xs, .int i => (atI xs i).map D.int
  | .mref k, .int i => match s[k]? with
    | some (.lst xs) => atI xs i
    | _ => none
  | .str z, .int i => if cap z.length then (atI z.cps.toList i).map fun c => .str ⟨#[c]⟩ else none
  | _, _ => none
def blsOf : List D → Option (List Bool)
  | [] => some []
  | .bl b :: r => (blsOf r).map (b :: ·)
  | _ => none
def strsOf : List D → Option (List Str)
  | [] => some []
  | .str b :: r => (strsOf r).map (b :: ·)
  | _ => none
def partD : Bool → D → Option (Option Int)
  | false, _ => some none
  | true, .int i => some (some i)
  | true, _ => none
def cutD (xs : List D) (lo hi : Option Int) : List D := (xs.drop (HT.sIx xs.length 0 lo)).take (HT.sIx xs.length xs.length hi - HT.sIx xs.length 0 lo)
def sliD : D → Option Int → Option Int → Option D
  | .str z, lo, hi => if cap z.length then some (.str (cutS z lo hi)) else none
  | .tup xs, lo, hi => some (.tup (cutD xs lo hi))
  | .lst xs, lo, hi => if cap xs.length then some (.lst (cutD xs lo hi)) else none
  | _, _, _ => none
def joiD (a : Str) : D → Option D
  | .lst xs => match strsOf xs with
    | some ys => if (ys.map (·.length)).sum + ys.length * a.length ≤ 100000 then some (.str (Txt.join a ys)) else none
    | none => none
  | _ => none
def signsD (z : Str) : List D := z.cps.toList.map fun c => .str ⟨#[c]⟩
def enmD (xs : List D) : List D := xs.zipIdx.map fun (x, (i : Nat)) => .tup [.int i, x]
/-- data that repr shows -/
def reprOk (x : PyData) : Bool := x.showable && (!x.hasDict && (decide (x.depth ≤ 60) && decide (x.shown.length ≤ sizeLine)))
def oint : Option Int → D
  | some i => .int i
  | none => .non
def bltD (s : List D) : Bf → List D → Option D
  | .len, [.tup xs] => some (.int xs.length)
  | .len, [.lst xs] => some (.int xs.length)
  | .len, [.scr xs] => some (.int xs.length)
  | .len, [.str x] => if cap x.length then some (.int x.length) else none
  | .len, [.mref k] => match s[k]? with
    | some (.lst xs) => some (.int xs.length)
    | _ => none
  | .sum, [.lst xs] => (intsOf xs).map fun ns => .int ns.sum
  | .sum, [.tup xs] => (intsOf xs).map fun ns => .int ns.sum
  | .int, [.int i] => some (.int i)
  | .int, [.bl b] => some (.int (if b then 1 else 0))
  | .tuple, [.lst xs] => some (.tup xs)
  | .tuple, [.tup xs] => some (.tup xs)
  | .list, [.lst xs] => some (.lst xs)
  | .list, [.tup xs] => some (.lst xs)
  | .list, [.scr ns] => some (.lst (ns.map D.int))
  | .max2, [.int i, .int j] => some (.int (if j > i then j else i))
  | .min2, [.int i, .int j] => some (.int (if j < i then j else i))
  | .abs, [.int i] => some (.int (if i < 0 then -i else i))
  | .int, [.str a] => if a.length ≤ 640 then (PySem.intText? a).map D.int else none
  | .str, [.int i] => if i.natAbs.log2 < 1920 then some (.str (toString i)) else none
  | .all, [.lst xs] => (blsOf xs).map fun bs => .bl (bs.all id)
  | .any, [.lst xs] => (blsOf xs).map fun bs => .bl (bs.any id)
  | .maxl, [.lst xs] => match intsOf xs with
    | some (n :: ns) => some (.int (ns.foldl max n))
    | _ => none
  | .minl, [.lst xs] => match intsOf xs with
    | some (n :: ns) => some (.int (ns.foldl min n))
    | _ => none
  | .repr, [d] => match py d with
    | some x => if reprOk x then some (.str x.shown) else none
    | none => none
  | .dget kvs, [.str x] => (kvs.lookup x).map oint
  | _, _ => none
def tyB : Ty → String
  | .int => "int" | .bool => "bool" | .str => "str" | .list => "list" | .tuple => "tuple" | .own _ => ""
def isTy : D → Ty → Option Bool
  | .non, .own _ => none
  | .non, _ => some false
  | .bl _, .int => some true | .bl _, .bool => some true | .bl _, .own _ => none | .bl _, _ => some false
  | .int _, .int => some true | .int _, .own _ => none | .int _, _ => some false
  | .str _, .str => some true | .str _, .own _ => none | .str _, _ => some false
  | .tup _, .tuple => some true | .tup _, .own _ => none | .tup _, _ => some false
  | .lst _, .list => some true | .lst _, .own _ => none | .lst _, _ => some false
  | .dic, .own _ => none | .dic, _ => some false
  | _, _ => none
def isTys (d : D) : List Ty → Option Bool
  | [] => some false
  | t :: ts => match isTy d t, isTys d ts with
    | some true, some _ => some true
    | some false, r => r
    | _, _ => none
def flatD : D → Bool
  | .non | .bl _ | .int _ | .str _ => true
  | _ => false
def frzS : Sl → Sl
  | .ow d => .im d
  | x => x
def frzAt (ρ : En) : List Nat → En
  | [] => ρ
  | i :: is => match ρ[i]? with
    | some (.ow d) => frzAt (ρ.set i (.im d)) is
    | _ => frzAt ρ is
def unS : Sl → Sl
  | .im d => .im d
  | .br d => .br d
  | _ => .un
def wipeE (ρ : En) : List Nat → En
  | [] => ρ
  | v :: vs => (wipeE ρ vs).set v .un
/-- the slots within a comprehension's block -/
def blkE (ρ : En) (vs : List Nat) : En := wipeE (ρ.map unS) vs
mutual
def bindT : Tg → D → En → Option En
  | .nm i, d, ρ => if i < ρ.length then some (ρ.set i (.im d)) else none
  | .tp ts, .tup ds, ρ => bindTs ts ds ρ
  | .tp ts, .lst ds, ρ => bindTs ts ds ρ
  | .tp _, _, _ => none
def bindTs : List Tg → List D → En → Option En
  | [], [], ρ => some ρ
  | t :: ts, d :: ds, ρ => match bindT t d ρ with
    | some ρ' => bindTs ts ds ρ'
    | none => none
  | _, _, _ => none
end
def itemsOf : D → Option (List D)
  | .lst xs => some xs
  | .tup xs => some xs
  | .scr ns => some (ns.map D.int)
  | .str z => some (signsD z)
  | _ => none
def rangeD (lo : Int) (n : Nat) : List D := (List.range n).map fun (k : Nat) => D.int (lo + k)
/-- over the items, one after another: what f makes of each is joined -/
def goL (f : D → List D → OutL) : List D → List D → OutL
  | [], s => .ok [] [] s
  | x :: xs, s => match f x s with
    | .ok ds _ s1 => match goL f xs s1 with
      | .ok es _ s2 => .ok (ds ++ es) [] s2
      | .exc c fs ρ s => .exc c fs ρ s
      | .bad => .bad
    | .exc c fs ρ s => .exc c fs ρ s
    | .bad => .bad
def fin (tm : Bool) (o : Out) : Out := match tm with
  | true => o.bind fun x ρ s => Out.get ((truth x).map D.bl) ρ s
  | false => o
@[simp] theorem fin_f (o) : fin false o = o := rfl
def callO (F : Fs) (f : CK) (ds : List D) (ρ : En) (s : List D) : Out := match F f with
  | some fn => match fn ds s with
    | .ok d s' => .ok d ρ s'
    | .exc c fs s' => .exc c fs ρ s'
    | .bad => .bad
  | none => .bad
section
variable (F : Fs)
mutual
def ev : Ex → Bool → En → List D → Out
  | .c d, tm, ρ, s => fin tm (.ok d ρ s)
  | .v i, tm, ρ, s => fin tm (match ρ[i]? with
    | some (.im d) => .ok d ρ s
    | some (.ow d) => .ok d (ρ.set i (.im d)) s
    | some (.br d) => if flatD d then .ok d ρ s else .bad
    | _ => .bad)
  | .bv i, tm, ρ, s => fin tm (match ρ[i]? with
    | some (.im d) => .ok d ρ s
    | some (.ow d) => .ok d ρ s
    | some (.br d) => .ok d ρ s
    | _ => .bad)
  | .sv i, tm, ρ, s => fin tm (match ρ[i]? with
    | some (.im d) => .ok d ρ s
    | some (.ow d) => .ok d (ρ.set i (.im d)) s
    | some (.br d) => .ok d ρ s
    | _ => .bad)
  | .tup es, tm, ρ, s => fin tm ((evs es ρ s).bind fun ds ρ s => if cap ds.length then .ok (.tup ds) ρ s else .bad)
  | .lst es, tm, ρ, s => fin tm ((evs es ρ s).bind fun ds ρ s => if cap ds.length then .ok (.lst ds) ρ s else .bad)
  | .bin op a b, tm, ρ, s => fin tm ((ev a false ρ s).bind fun x ρ s => (ev b false ρ s).bind fun y ρ s => Out.get (binD op x y) ρ s)
  | .cat a b, tm, ρ, s => fin tm ((ev a false ρ s).bind fun x ρ s => (ev b false ρ s).bind fun y ρ s => match x, y with
    | .lst xs, .lst ys => if cap (xs.length + ys.length) then .ok (.lst (xs ++ ys)) ρ s else .bad
    | _, _ => .bad)
  | .cmp op a b, tm, ρ, s => fin tm ((ev a false ρ s).bind fun x ρ s => (ev b false ρ s).bind fun y ρ s => Out.get ((cmpD op x y).map D.bl) ρ s)
  | .ch op op' a b c, tm, ρ, s => fin tm ((ev a false ρ s).bind fun x ρ s => (ev b false ρ s).bind fun y ρ s => match cmpD op x y with
    | some true => (ev c false ρ s).bind fun z ρ s => Out.get ((cmpD op' y z).map D.bl) ρ s
    | some false => .ok (.bl false) ρ s
    | none => .bad)
  | .neg a, tm, ρ, s => fin tm ((ev a false ρ s).bind fun x ρ s => match x with
    | .int i => .ok (.int (-i)) ρ s
    | _ => .bad)
  | .nt a, tm, ρ, s => (ev a tm ρ s).bind fun x ρ s => match x with
    | .bl b => .ok (.bl (!b)) ρ s
    | _ => .bad
  | .an a b, tm, ρ, s => (ev a tm ρ s).bind fun x ρ s => match x with
    | .bl true => ev b tm ρ s
    | .bl false => .ok (.bl false) ρ s
    | _ => .bad
  | .orr a b, tm, ρ, s => (ev a tm ρ s).bind fun x ρ s => match x with
    | .bl true => .ok (.bl true) ρ s
    | .bl false => ev b tm ρ s
    | _ => .bad
  | .ife t a b, tm, ρ, s => match tm with
    | true => .bad
    | false => (ev t true ρ s).bind fun x ρ s => match x with
      | .bl true => ev a false ρ s
      | .bl false => ev b false ρ s
      | _ => .bad
  | .ix a b, tm, ρ, s => fin tm ((ev a false ρ s).bind fun x ρ s => (ev b false ρ s).bind fun y ρ s => Out.get (ixD s x y) ρ s)
  | .call f ms es, tm, ρ, s => fin tm ((evs es ρ s).bind fun ds ρ s => callO F f ds ρ s)
  | .blt f es, tm, ρ, s => fin tm ((evs es ρ s).bind fun ds ρ s => Out.get (bltD s f ds) ρ s)
  | .isi a ts, tm, ρ, s => fin tm ((ev a false ρ s).bind fun x ρ s => Out.get ((isTys x ts).map D.bl) ρ s)
  | .sli f g a b c, tm, ρ, s => fin tm ((ev a false ρ s).bind fun x ρ s => (ev b false ρ s).bind fun y ρ s => match partD f y with
    | some lo => (ev c false ρ s).bind fun z ρ s => match partD g z with
      | some hi => Out.get (sliD x lo hi) ρ s
      | none => .bad
    | none => .bad)
  | .joi a b, tm, ρ, s => fin tm ((ev b false ρ s).bind fun y ρ s => Out.get (joiD a y) ρ s)
  | .gcd a b, tm, ρ, s => fin tm ((ev a false ρ s).bind fun x ρ s => (ev b false ρ s).bind fun y ρ s => match x, y with
    | .int i, .int j => .ok (.int ((Nat.gcd i.natAbs j.natAbs : Nat) : Int)) ρ s
    | _, _ => .bad)
  | .dicE, tm, ρ, s => fin tm (.ok .dic ρ s)
  | .fx i f, tm, ρ, s => fin tm (match ρ[i]? with
    | some (.xc _ fs) => Out.get (fs.lookup f) ρ s
    | _ => .bad)
  | .isx i ks, tm, ρ, s => fin tm (match ρ[i]? with
    | some (.xc c _) => .ok (.bl (ks.contains c)) ρ s
    | _ => .bad)
  | .lc fz vs tg it co el, tm, ρ, s => fin tm ((evI it ρ s).bind fun x ρ s => match itemsOf x with
    | some xs =>
      match goL (fun x s => match bindT tg x (blkE (frzAt ρ fz) vs) with
        | some ρ1 => match evO co ρ1 s with
          | .ok (.bl true) ρ2 s => match ev el false ρ2 s with
            | .ok d _ s => .ok [d] [] s
            | .exc c fs _ s => .exc c fs [] s
            | .bad => .bad
          | .ok (.bl false) _ s => .ok [] [] s
          | .exc c fs _ s => .exc c fs [] s
          | _ => .bad
        | none => .bad) xs s with
      | .ok ds _ s => if cap ds.length then .ok (.lst ds) (frzAt ρ fz) s else .bad
      | .exc c fs _ s => if cap xs.length then .exc c fs (frzAt ρ fz) s else .bad
      | .bad => .bad
    | none => .bad)
  | .lc2 fz vs vs1 tg it co tg1 it1 co1 el, tm, ρ, s => fin tm ((evI it ρ s).bind fun x ρ s => match itemsOf x with
    | some xs =>
      match goL (fun x s => match bindT tg x (blkE (frzAt ρ fz) vs) with
        | some ρ1 => match evO co ρ1 s with
          | .ok (.bl true) ρ1 s => match evI it1 ρ1 s with
            | .ok y ρ2 s => match itemsOf y with
              | some ys => goL (fun y s => match bindT tg1 y (wipeE ρ2 vs1) with
                | some ρ3 => match evO co1 ρ3 s with
                  | .ok (.bl true) ρ3 s => match ev el false ρ3 s with
                    | .ok d _ s => .ok [d] [] s
                    | _ => .bad
                  | .ok (.bl false) _ s => .ok [] [] s
                  | _ => .bad
                | none => .bad) ys s
              | none => .bad
            | _ => .bad
          | .ok (.bl false) _ s => .ok [] [] s
          | _ => .bad
        | none => .bad) xs s with
      | .ok ds _ s => if cap ds.length then .ok (.lst ds) (frzAt ρ fz) s else .bad
      | _ => .bad
    | none => .bad)
  termination_by structural x => x
def evs : List Ex → En → List D → OutL
  | [], ρ, s => .ok [] ρ s
  | e :: es, ρ, s => (ev e false ρ s).bindL fun d ρ s => (evs es ρ s).bindL fun ds ρ s => .ok (d :: ds) ρ s
  termination_by structural x => x
def evO : Option Ex → En → List D → Out
  | none, ρ, s => .ok (.bl true) ρ s
  | some e, ρ, s => ev e true ρ s
  termination_by structural x => x
def evI : It → En → List D → Out
  | .seq e, ρ, s => ev e false ρ s
  | .rng1 a, ρ, s => (ev a false ρ s).bind fun x ρ s => match x with
    | .int n => if n ≤ 100000 ∧ -100000 ≤ n then .ok (.lst (rangeD 0 n.toNat)) ρ s else .bad
    | _ => .bad
  | .rng2 a b, ρ, s => (ev a false ρ s).bind fun x ρ s => (ev b false ρ s).bind fun y ρ s => match x, y with
    | .int l, .int n => if n ≤ 100000 ∧ -100000 ≤ n ∧ l ≤ 100000 ∧ -100000 ≤ l then .ok (.lst (rangeD l (n - l).toNat)) ρ s else .bad
    | _, _ => .bad
  | .enm e, ρ, s => (ev e false ρ s).bind fun x ρ s => match x with
    | .str z => .ok (.lst (enmD (signsD z))) ρ s
    | .lst xs => .ok (.lst (enmD xs)) ρ s
    | .tup xs => .ok (.lst (enmD xs)) ρ s
    | _ => .bad
  termination_by structural x => x
end
end
end Z

namespace Z
open PySem PySem.Spec PyProof.Rows L2

inductive Kd where | k | b | f | s
  deriving DecidableEq
/-- no slot becomes an own one -/
structure Os (ρ ρ' : En) : Prop where
  ow : ∀ (i : Nat) d, ρ'[i]? = some (.ow d) → ρ[i]? = some (.ow d)
  br : ∀ (i : Nat) d, ρ'[i]? = some (.br d) → ρ[i]? = some (.br d)
theorem Os.refl (ρ : En) : Os ρ ρ := ⟨fun _ _ h => h, fun _ _ h => h⟩
theorem Os.trans {a b c : En} (h : Os a b) (h' : Os b c) : Os a c := ⟨fun i d e => h.ow i d (h'.ow i d e), fun i d e => h.br i d (h'.br i d e)⟩
section
variable {g : G} {W : WX} {kd : Kd} {w0 w w1 w' : Ws} {ρ ρ1 ρ' : En} {s s1 : List D} {σ : L2.St} {v : V} {d : D} {o : Out} {Q : VK} {H : Hp}
theorem Tr.step (h : Tr g w v d) (S : Step w w') : Tr g w' v d := by
  rcases h with h | ⟨a, o, e, h, n, r⟩
  · exact .inl (S.r h)
  · refine .inr ⟨a, o, e, S.hh a o h n, fun hm => ?_, S.ro r⟩
    rw [S.an a hm n] at h; cases h
def post (g : G) (kd : Kd) (w0 w w' : Ws) (v : V) (d : D) : Prop := match kd with
  | .k => Rw g w' v d
  | .b => Tr g w' v d
  | .s => Rw g w' v d ∨ Tr g w0 v d
  | .f => ∃ a o, v = .ref a ∧ w.H a = none ∧ w'.H a = some o ∧ RO g w' o d ∧ w'.Hf a = none ∧ a ∉ w'.al
theorem post.tr (h : post g kd w0 w w' v d) (E : Step w0 w') : Tr g w' v d := by
  cases kd with
  | k => exact .inl h
  | b => exact h
  | s =>
    rcases h with h | h
    · exact .inl h
    · exact h.step E
  | f =>
    obtain ⟨a, o, e, _, h, r, _, n⟩ := h
    exact .inr ⟨a, o, e, h, n, r⟩
theorem post.shift (h : post g kd w0 w1 w' v d) (b : Base g w' s1) (S : Step w w1) (S' : Step w1 w') : post g kd w0 w w' v d := by
  cases kd with
  | k => exact h
  | b => exact h
  | s => exact h
  | f =>
    obtain ⟨a, o, e, z, h, r, x, n⟩ := h
    refine ⟨a, o, e, ?_, h, r, x, n⟩
    cases q : w.H a with
    | none => rfl
    | some u =>
      by_cases ha : a ∈ w.al
      · exact absurd ((S.trans S').mem ha) n
      · rw [S.hh a u q ha] at z; cases z
def Go (g : G) (W : WX) (kd : Kd) (w0 w : Ws) (ρ : En) (σ : L2.St) (o : Out) (Q : VK) : Prop := match o with
  | .ok d ρ' s' => ∀ v w', Good g w0 w' ρ' s' σ → Step w w' → Os ρ ρ' → post g kd w0 w w' v d → Q v w'.H
  | .exc c fs ρ' s' => ∀ C d w', Good g w0 w' ρ' s' σ → g.cl c = some C → XD g w' d fs → W (.ref C) d σ w'.H
  | .bad => False
def GoT (g : G) (W : WX) (w0 w : Ws) (ρ : En) (σ : L2.St) (o : Out) (Q : Bool → Hp → Prop) : Prop := match o with
  | .ok d ρ' s' => ∃ b, d = .bl b ∧ ∀ w', Good g w0 w' ρ' s' σ → Step w w' → Os ρ ρ' → Q b w'.H
  | .exc c fs ρ' s' => ∀ C d w', Good g w0 w' ρ' s' σ → g.cl c = some C → XD g w' d fs → W (.ref C) d σ w'.H
  | .bad => False
/-- the values of a list of expressions: borrowed where ms says so -/
inductive Ps (g : G) (w : Ws) : List Bool → List V → List D → Prop
  | nil {ms : List Bool} : Ps g w ms [] []
  | k {ms : List Bool} {v : V} {vs : List V} {d : D} {ds : List D} : Rw g w v d → Ps g w ms vs ds → Ps g w (false :: ms) (v :: vs) (d :: ds)
  | b {ms : List Bool} {v : V} {vs : List V} {d : D} {ds : List D} : Tr g w v d → Ps g w ms vs ds → Ps g w (true :: ms) (v :: vs) (d :: ds)
theorem Ps.step {ms : List Bool} {vs : List V} {ds : List D} (h : Ps g w ms vs ds) (S : Step w w') : Ps g w' ms vs ds := by
  induction h with
  | nil => exact .nil
  | k r _ ih => exact .k (S.r r) ih
  | b r _ ih => exact .b (r.step S) ih
theorem Ps.length {ms : List Bool} {vs : List V} {ds : List D} (h : Ps g w ms vs ds) : vs.length = ds.length := by
  induction h with
  | nil => rfl
  | k r _ ih => simp [ih]
  | b r _ ih => simp [ih]
def GoL (g : G) (W : WX) (ms : List Bool) (w0 w : Ws) (ρ : En) (σ : L2.St) (o : OutL) (Q : List V → Hp → Prop) : Prop := match o with
  | .ok ds ρ' s' => ∀ vs w', Good g w0 w' ρ' s' σ → Step w w' → Os ρ ρ' → Ps g w' ms vs ds → Q vs w'.H
  | .exc c fs ρ' s' => ∀ C d w', Good g w0 w' ρ' s' σ → g.cl c = some C → XD g w' d fs → W (.ref C) d σ w'.H
  | .bad => False
theorem Go.shift (h : Go g W kd w0 w ρ σ o Q) (S : Step w w1) (O : Os ρ ρ1) : Go g W kd w0 w1 ρ1 σ o Q := by
  cases o with
  | ok d ρ' s' => exact fun v w' G0 S' O' p => h v w' G0 (S.trans S') (O.trans O') (p.shift G0.base S S')
  | exc c fs ρ' s' => exact h
  | bad => exact h
theorem GoT.shift {Q : Bool → Hp → Prop} (h : GoT g W w0 w ρ σ o Q) (S : Step w w1) (O : Os ρ ρ1) : GoT g W w0 w1 ρ1 σ o Q := by
  cases o with
  | ok d ρ' s' =>
    obtain ⟨b, e, h⟩ := h
    exact ⟨b, e, fun w' G0 S' O' => h w' G0 (S.trans S') (O.trans O')⟩
  | exc c fs ρ' s' => exact h
  | bad => exact h
theorem GoL.shift {ms : List Bool} {o : OutL} {Q : List V → Hp → Prop} (h : GoL g W ms w0 w ρ σ o Q) (S : Step w w1) (O : Os ρ ρ1) : GoL g W ms w0 w1 ρ1 σ o Q := by
  cases o with
  | ok d ρ' s' => exact fun v w' G0 S' O' p => h v w' G0 (S.trans S') (O.trans O') p
  | exc c fs ρ' s' => exact h
  | bad => exact h
end
/-! the readings -/
def tI (F : Fs) (g : G) (W : WX) (kd : Kd) (p : Ex) : TE := fun σ H Q => ∃ w0 w ρ s, w.H = H ∧ Good g w0 w ρ s σ ∧ Go g W kd w0 w ρ σ (ev F p false ρ s) Q
def tT (F : Fs) (g : G) (W : WX) (p : Ex) : TT := fun σ H Q => ∃ w0 w ρ s, w.H = H ∧ Good g w0 w ρ s σ ∧ GoT g W w0 w ρ σ (ev F p true ρ s) Q
def tA (F : Fs) (g : G) (W : WX) (ms : List Bool) (ps : List Ex) : TA := fun σ H Q => ∃ w0 w ρ s, w.H = H ∧ Good g w0 w ρ s σ ∧ GoL g W ms w0 w ρ σ (evs F ps ρ s) Q
section
variable {F : Fs} {g : G} {W : WX} {kd kq : Kd} {p q : Ex} {w0 w w1 : Ws} {ρ ρ1 : En} {s s1 : List D} {σ : L2.St} {H : Hp} {Q : VK} {k : D → En → List D → Out}
/-- between two parts: the world w1 behind the first -/
structure Mid (g : G) (w0 w w1 : Ws) (ρ ρ1 : En) (s1 : List D) (σ : L2.St) (H : Hp) : Prop where
  h : w1.H = H
  good : Good g w0 w1 ρ1 s1 σ
  step : Step w w1
  os : Os ρ ρ1
theorem tI_mono {P P' : VK} (h : tI F g W kd p σ H P) (i : ∀ v H', P v H' → P' v H') : tI F g W kd p σ H P' := by
  obtain ⟨w0, w, ρ, s, e, G0, z⟩ := h
  refine ⟨w0, w, ρ, s, e, G0, ?_⟩
  cases q : ev F p false ρ s with
  | ok d ρ' s' => rw [q] at z; exact fun v w' a b c e => i _ _ (z v w' a b c e)
  | exc c fs ρ' s' => rw [q] at z; exact z
  | bad => rw [q] at z; exact z
theorem go_bind (G0 : Good g w0 w ρ s σ) (h : Go g W kd w0 w ρ σ ((ev F p false ρ s).bind k) Q) :
    tI F g W kq p σ w.H (fun x H1 => ∃ w1 d ρ1 s1, Mid g w0 w w1 ρ ρ1 s1 σ H1 ∧ post g kq w0 w w1 x d ∧ Go g W kd w0 w1 ρ1 σ (k d ρ1 s1) Q) := by
  refine ⟨w0, w, ρ, s, rfl, G0, ?_⟩
  cases q : ev F p false ρ s with
  | ok d ρ' s' =>
    rw [q] at h
    exact fun v w' a b c e => ⟨w', d, ρ', s', ⟨rfl, a, b, c⟩, e, Go.shift h b c⟩
  | exc c fs ρ' s' => rw [q] at h; exact h
  | bad => rw [q] at h; exact h
theorem go_bindT {Q : Bool → Hp → Prop} (G0 : Good g w0 w ρ s σ) (h : GoT g W w0 w ρ σ ((ev F p false ρ s).bind k) Q) :
    tI F g W kq p σ w.H (fun x H1 => ∃ w1 d ρ1 s1, Mid g w0 w w1 ρ ρ1 s1 σ H1 ∧ post g kq w0 w w1 x d ∧ GoT g W w0 w1 ρ1 σ (k d ρ1 s1) Q) := by
  refine ⟨w0, w, ρ, s, rfl, G0, ?_⟩
  cases q : ev F p false ρ s with
  | ok d ρ' s' =>
    rw [q] at h
    exact fun v w' a b c e => ⟨w', d, ρ', s', ⟨rfl, a, b, c⟩, e, GoT.shift h b c⟩
  | exc c fs ρ' s' => rw [q] at h; exact h
  | bad => rw [q] at h; exact h
/-- a test first, then the rest -/
theorem goT_bind (G0 : Good g w0 w ρ s σ) (hb : ∀ d ρ1 s1, (∀ b, d ≠ .bl b) → k d ρ1 s1 = .bad) (h : Go g W kd w0 w ρ σ ((ev F p true ρ s).bind k) Q) :
    tT F g W p σ w.H (fun b H1 => ∃ w1 ρ1 s1, Mid g w0 w w1 ρ ρ1 s1 σ H1 ∧ Go g W kd w0 w1 ρ1 σ (k (.bl b) ρ1 s1) Q) := by
  refine ⟨w0, w, ρ, s, rfl, G0, ?_⟩
  cases q : ev F p true ρ s with
  | ok d ρ' s' =>
    rw [q] at h
    by_cases hd : ∃ b, d = .bl b
    · obtain ⟨b, rfl⟩ := hd
      exact ⟨b, rfl, fun w' a b' c => ⟨w', ρ', s', ⟨rfl, a, b', c⟩, Go.shift h b' c⟩⟩
    · have h' : Go g W kd w0 w ρ σ (k d ρ' s') Q := h
      rw [hb d ρ' s' fun b e => hd ⟨b, e⟩] at h'
      exact h'.elim
  | exc c fs ρ' s' => rw [q] at h; exact h
  | bad => rw [q] at h; exact h
theorem goT_bindT {Q : Bool → Hp → Prop} (G0 : Good g w0 w ρ s σ) (hb : ∀ d ρ1 s1, (∀ b, d ≠ .bl b) → k d ρ1 s1 = .bad) (h : GoT g W w0 w ρ σ ((ev F p true ρ s).bind k) Q) :
    tT F g W p σ w.H (fun b H1 => ∃ w1 ρ1 s1, Mid g w0 w w1 ρ ρ1 s1 σ H1 ∧ GoT g W w0 w1 ρ1 σ (k (.bl b) ρ1 s1) Q) := by
  refine ⟨w0, w, ρ, s, rfl, G0, ?_⟩
  cases q : ev F p true ρ s with
  | ok d ρ' s' =>
    rw [q] at h
    by_cases hd : ∃ b, d = .bl b
    · obtain ⟨b, rfl⟩ := hd
      exact ⟨b, rfl, fun w' a b' c => ⟨w', ρ', s', ⟨rfl, a, b', c⟩, GoT.shift h b' c⟩⟩
    · have h' : GoT g W w0 w ρ σ (k d ρ' s') Q := h
      rw [hb d ρ' s' fun b e => hd ⟨b, e⟩] at h'
      exact h'.elim
  | exc c fs ρ' s' => rw [q] at h; exact h
  | bad => rw [q] at h; exact h
theorem goL_bind {ms : List Bool} {ps : List Ex} {k : List D → En → List D → Out} (G0 : Good g w0 w ρ s σ) (h : Go g W kd w0 w ρ σ ((evs F ps ρ s).bind k) Q) :
    tA F g W ms ps σ w.H (fun xs H1 => ∃ w1 ds ρ1 s1, Mid g w0 w w1 ρ ρ1 s1 σ H1 ∧ Ps g w1 ms xs ds ∧ Go g W kd w0 w1 ρ1 σ (k ds ρ1 s1) Q) := by
  refine ⟨w0, w, ρ, s, rfl, G0, ?_⟩
  cases q : evs F ps ρ s with
  | ok d ρ' s' =>
    rw [q] at h
    exact fun v w' a b c e => ⟨w', d, ρ', s', ⟨rfl, a, b, c⟩, e, Go.shift h b c⟩
  | exc c fs ρ' s' => rw [q] at h; exact h
  | bad => rw [q] at h; exact h
/-- what is fresh is frozen; what is read is read -/
theorem tI_k (h : kq ≠ .b) (hs : kq ≠ .s) (hw : tI F g W .k p σ H Q) : tI F g W kq p σ H Q := by
  obtain ⟨w0, w, ρ, s, e, G0, z⟩ := hw
  refine ⟨w0, w, ρ, s, e, G0, ?_⟩
  cases q : ev F p false ρ s with
  | exc c fs ρ' s' => rw [q] at z; exact z
  | bad => rw [q] at z; exact z
  | ok d ρ' s' =>
    rw [q] at z
    intro v w' G1 S O hp
    cases kq with
    | k => exact z v w' G1 S O hp
    | b => exact absurd rfl h
    | s => exact absurd rfl hs
    | f =>
      obtain ⟨a, o, rfl, h1, h2, h3, h4, h5⟩ := hp
      have n0 : w0.H a = none := by
        cases q0 : w0.H a with
        | none => rfl
        | some u =>
          by_cases ha : a ∈ w0.al
          · exact absurd (G1.ext.mem ha) h5
          · rw [G0.ext.hh a u q0 ha] at h1; cases h1
      have G2 : Good g w0 (w'.frz a o) ρ' s' σ := G1.frz h4 h2 h5 n0 fun i d' e' z' => by
        obtain ⟨a', o', y1, y2, _⟩ := G0.ow i d' (O.ow i d' e')
        rw [z'] at y1
        have e3 : a = a' := V.ref.inj (Option.some.inj (Option.some.inj y1))
        rw [← e3, h1] at y2; cases y2
      have S2 : Step w' (w'.frz a o) := step_frz G1.base h4
      refine z (.ref a) (w'.frz a o) G2 (S.trans S2) O ?_
      cases S2.ro h3 with
      | lst r => exact .lst upd_same r
      | ins c r => exact .obj upd_same c r
theorem tI_b (hw : tI F g W .b p σ H Q) : tI F g W kq p σ H Q := by
  obtain ⟨w0, w, ρ, s, e, G0, z⟩ := hw
  refine ⟨w0, w, ρ, s, e, G0, ?_⟩
  cases q : ev F p false ρ s with
  | exc c fs ρ' s' => rw [q] at z; exact z
  | bad => rw [q] at z; exact z
  | ok d ρ' s' =>
    rw [q] at z
    exact fun v w' G1 S O hp => z v w' G1 S O (hp.tr G1.ext)
theorem PE.imp {X : Cx} {e : Expr} {t t' : TE} (h : PE X e t) (i : ∀ σ H Q, t' σ H Q → t σ H Q) : PE X e t' := ⟨fun pins s σ H Q I hw => h.run pins s σ H Q I (i σ H Q hw)⟩
theorem PT.imp {X : Cx} {e : Expr} {t t' : TT} (h : PT X e t) (i : ∀ σ H Q, t' σ H Q → t σ H Q) : PT X e t' := ⟨fun pins s σ H Q I hw => h.run pins s σ H Q I (i σ H Q hw)⟩
theorem PA.imp {X : Cx} {e : List Expr} {t t' : TA} (h : PA X e t) (i : ∀ σ H Q, t' σ H Q → t σ H Q) : PA X e t' := ⟨fun pos pins s σ H Q I hw => h.run pos pins s σ H Q I (i σ H Q hw)⟩
theorem PS.imp {X : Cx} {e : Stmt} {t t' : TS} (h : PS X e t) (i : ∀ D σ H, t' D σ H → t D σ H) : PS X e t' := ⟨fun pins s σ H D I hw => h.run pins s σ H D I (i D σ H hw)⟩
theorem PSs.imp {X : Cx} {e : List Stmt} {t t' : TS} (h : PSs X e t) (i : ∀ D σ H, t' D σ H → t D σ H) : PSs X e t' := ⟨fun pins s σ H D I hw => h.run pins s σ H D I (i D σ H hw)⟩
end
end Z

namespace Z
open PySem PySem.Spec PyProof.Rows L2

def kd : Ex → Kd
  | .bv _ => .b
  | .sv _ => .s
  | .lst _ => .f
  | .cat _ _ => .f
  | .lc .. => .f
  | .lc2 .. => .f
  | .blt .list _ => .f
  | _ => .k
structure Tb where
  P : Program
  w : World
  g : G
  mg : Str → Option Value
  base : Heap
  k : Nat
  gd : Bool := false
/-- an exception in the air of X, noted (if at all) at K -/
def XH (X : Cx) (W : WX) (K : Addr) (u : Value) (s' : Shared) : Prop := ∃ (a : Addr) (B : Heap) (sI : Shared) (pins : List (Addr × Obj)) (σ : L2.St) (H : Hp) (cls : Value) (d : Option Addr),
  u = .ref a ∧ Inv X pins σ H sI ∧ (∀ b o, sI.heap.get? b = some o → b ∉ frs X.stack → B.get? b = some o) ∧ sI.heap.UpToSlots s'.heap ∧
    Sky B X.stack a (Zc cls d) K s'.heap ∧ H a = none ∧ s'.os = sI.os ∧ AllBare s'.gens ∧ W cls d σ H
/-- where X's exceptions are noted, and that such a one is taken -/
structure Top (X : Cx) (W : WX) : Prop where
  at_ : ∃ e0 l L, X.stack = e0 :: l ∧ e0.frame = some L ∧ X.env.frame = some L ∧ ∀ u s', XH X W L u s' → X.xe u s'
theorem Top.of_def {X : Cx} {W : WX} (tk : Takes X W) (hs : X.stack = X.env :: X.outer) (hf : X.env.frame = some X.env.locals) : Top X W :=
  ⟨⟨X.env, X.outer, X.env.locals, hs, hf, hf, fun u s' h => tk u s' h⟩⟩
abbrev WK (E : XK) : WX := fun c d _ H => E c d H
structure BlkX (XB : Cx) (E : XK) : Prop where
  tk : Takes XB (WK E)
  tp : Top XB (WK E)
/-- a context in which the rules hold -/
structure Ok (T : Tb) (N : List Str) (sc : Scope) (ow : Str → Bool) (W : WX) (X : Cx) : Prop where
  P : X.prog = T.P
  w : X.w = T.w
  K : X.K = T.g.K
  mg : X.mg = T.mg
  base : X.base = T.base
  calm : X.calm = true
  hN : X.N = N
  nd : X.N.Nodup
  sc : X.env.scope = sc
  room : Room T.k X.A
  gd : T.gd = true → X.A.guards = some []
  tk : Takes X W
  tp : Top X W
  fn : ∀ x, ow x = true → X.fn x = true ∨ X.env.scope.names.lookup x = some .local
section
variable {F : Fs} {T : Tb} {N : List Str} {sc : Scope} {ow : Str → Bool} {W : WX} {X : Cx} {p q pa pb pc : Ex} {w0 w w1 w2 : Ws} {ρ ρ1 : En} {s s1 : List D} {σ : L2.St} {H : Hp} {Q : VK} {k1 k2 k3 : Kd} {kk : Kd}
theorem Out.get_none (ρ s) : Out.get none ρ s = .bad := rfl
/-- the answer v (data d), nothing new -/
theorem Go.here {g : G} {W : WX} {d : D} {v : V} (G0 : Good g w0 w ρ s σ) (h : Go g W kk w0 w ρ σ (.ok d ρ s) Q) (hp : post g kk w0 w w v d) : Q v w.H := h v w G0 (Step.refl w) (Os.refl ρ) hp
/-- a new frozen thing is the answer -/
theorem Go.newK {g : G} {W : WX} {d : D} {o : HO} (G0 : Good g w0 w ρ s σ) (h : Go g W .k w0 w ρ σ (.ok d ρ s) Q) (r : ∀ p, w.H p = none → Rw g (w.upF p o) (.ref p) d) : ∀ p, w.H p = none → Q (.ref p) (upd w.H p o) := fun p hp =>
  h (.ref p) (w.upF p o) (G0.upF hp) (step_upF G0.base hp) (Os.refl ρ) (r p hp)
theorem Go.newF {g : G} {W : WX} {d : D} {o : HO} (G0 : Good g w0 w ρ s σ) (h : Go g W .f w0 w ρ σ (.ok d ρ s) Q) (r : RO g w o d) : ∀ p, w.H p = none → Q (.ref p) (upd w.H p o) := fun p hp =>
  h (.ref p) (w.up p o) (G0.up hp) (step_up G0.base hp) (Os.refl ρ) ⟨p, o, rfl, hp, upd_same, (step_up G0.base hp).ro r, (G0.base.fresh hp).2, (G0.base.fresh hp).1⟩
theorem cap_ok {n : Nat} (h : cap n = true) : n ≤ sizeLine := Nat.le_trans (of_decide_eq_true h) (by decide)

/-! what is read -/
theorem Good.sub {g : G} (G0 : Good g w0 w ρ s σ) : ∀ a o, w.Hf a = some o → w.H a = some o := fun a o h => (G0.base.fz a o h).1
theorem Tr.lst {g : G} {v : V} {ds : List D} (b : Base g w s) (h : Tr g w v (.lst ds)) : ∃ a xs, v = .ref a ∧ w.H a = some (.lst xs) ∧ Rws g w xs ds := by
  rcases h with h | ⟨a, o, rfl, h, _, r⟩
  · cases h with
    | lst h r => exact ⟨_, _, rfl, (b.fz _ _ h).1, r⟩
  · cases r with
    | lst r => exact ⟨_, _, rfl, h, r⟩
theorem Tr.tup {g : G} {v : V} {ds : List D} (b : Base g w s) (h : Tr g w v (.tup ds)) : ∃ a xs, v = .ref a ∧ SqT g.K w.H a xs ∧ Rws g w xs ds ∧ SqT g.K w.Hf a xs := by
  rcases h with h | ⟨a, o, rfl, h, _, r⟩
  · cases h with
    | tup h r => exact ⟨_, _, rfl, sqT_mono (fun a o e => (b.fz a o e).1) h, r, h⟩
  · cases r
theorem Tr.scr {g : G} {v : V} {ns : List Int} (b : Base g w s) (h : Tr g w v (.scr ns)) : ∃ a, v = .ref a ∧ SqL g.K w.H a (ns.map V.int) := by
  rcases h with h | ⟨a, o, rfl, h, _, r⟩
  · cases h with
    | scr h => exact ⟨_, rfl, sqL_mono (fun a o e => (b.fz a o e).1) h⟩
  · cases r
theorem Tr.int {g : G} {v : V} {i : Int} (h : Tr g w v (.int i)) : v = .int i := by
  rcases h with h | ⟨a, o, rfl, h, _, r⟩
  · cases h; rfl
  · cases r
theorem Tr.bl {g : G} {v : V} {i : Bool} (h : Tr g w v (.bl i)) : v = .bl i := by
  rcases h with h | ⟨a, o, rfl, h, _, r⟩
  · cases h; rfl
  · cases r
theorem Tr.str {g : G} {v : V} {i : Str} (h : Tr g w v (.str i)) : v = .str i := by
  rcases h with h | ⟨a, o, rfl, h, _, r⟩
  · cases h; rfl
  · cases r
theorem Tr.non {g : G} {v : V} (h : Tr g w v .non) : v = .non := by
  rcases h with h | ⟨a, o, rfl, h, _, r⟩
  · cases h; rfl
  · cases r
theorem Tr.mref {g : G} {v : V} {k : Nat} (b : Base g w s) (h : Tr g w v (.mref k)) : ∃ a d o, v = .ref a ∧ w.al[k]? = some a ∧ s[k]? = some d ∧ w.H a = some o ∧ RO g w o d := by
  rcases h with h | ⟨a, o, rfl, h, _, r⟩
  · cases h with
    | mref h =>
      obtain ⟨d, o, e1, e2, e3⟩ := b.st _ _ h
      exact ⟨_, d, o, rfl, h, e1, e2, e3⟩
  · cases r
theorem Tr.dic {g : G} {v : V} (b : Base g w s) (h : Tr g w v .dic) : ∃ a kvs, v = .ref a ∧ w.H a = some (.dK kvs) := by
  rcases h with h | ⟨a, o, rfl, h, _, r⟩
  · cases h with
    | dic h => exact ⟨_, _, rfl, (b.fz _ _ h).1⟩
  · cases r
theorem flat_rw {g : G} {v : V} {d : D} (h : Tr g w v d) (f : flatD d = true) : Rw g w1 v d := by
  cases d with
  | non => rw [h.non]; exact .non
  | bl b => rw [h.bl]; exact .bl b
  | int i => rw [h.int]; exact .int i
  | str x => rw [h.str]; exact .str x
  | _ => cases f

/-! data for == -/
mutual
theorem dp_r {g : G} {H : Hp} {al : List Addr} {Hf : Hp} (e : ∀ a o, Hf a = some o → H a = some o) : ∀ {d : D} {v : V} {x : PyData}, R g.K g.ol al Hf v d → py d = some x → Dp g.K H v x
  | .non, _, _, .non, h => by cases h; exact .non
  | .bl _, _, _, .bl b, h => by cases h; exact .bl b
  | .int _, _, _, .int i, h => by cases h; exact .int i
  | .str _, _, _, .str i, h => by cases h; exact .str i
  | .tup ds, _, _, .tup hs r, h => by
    unfold py at h
    cases q : pys ds with
    | none => rw [q] at h; cases h
    | some xs => rw [q] at h; cases h; exact .tup (sqT_mono e hs) (dps_r e r q)
  | .lst ds, _, _, .lst hs r, h => by
    unfold py at h
    cases q : pys ds with
    | none => rw [q] at h; cases h
    | some xs => rw [q] at h; cases h; exact .lst (SqL.of (e _ _ hs)) (dps_r e r q)
  | .scr _, _, _, .scr _, h => by cases h
  | .obj _ _, _, _, .obj _ _ _, h => by cases h
  | .mref _, _, _, .mref _, h => by cases h
  | .dic, _, _, .dic _, h => by cases h
theorem dps_r {g : G} {H : Hp} {al : List Addr} {Hf : Hp} (e : ∀ a o, Hf a = some o → H a = some o) : ∀ {ds : List D} {vs : List V} {xs : List PyData}, Rs g.K g.ol al Hf vs ds → pys ds = some xs → DpAll g.K H vs xs
  | [], _, _, .nil, h => by cases h; exact .nil
  | d :: ds, _, _, .cons r t, h => by
    unfold pys at h
    cases q : py d with
    | none => rw [q] at h; cases h
    | some x =>
      cases q2 : pys ds with
      | none => rw [q, q2] at h; cases h
      | some xs => rw [q, q2] at h; cases h; exact .cons (dp_r e r q) (dps_r e t q2)
end
theorem Tr.dp {g : G} {v : V} {d : D} {x : PyData} (b : Base g w s) (h : Tr g w v d) (hx : py d = some x) : Dp g.K w.H v x := by
  rcases h with h | ⟨a, o, rfl, h, _, r⟩
  · exact dp_r (fun a o e => (b.fz a o e).1) h hx
  · cases r with
    | lst r =>
      rename_i xs ds
      unfold py at hx
      cases q : pys ds with
      | none => rw [q] at hx; cases hx
      | some xs => rw [q] at hx; cases hx; exact .lst (SqL.of h) (dps_r (fun a o e => (b.fz a o e).1) r q)
    | ins c r => cases hx
/-- two operands -/
theorem two_op {g : G} {r : R2} {k : D → D → En → List D → Out} (G0 : Good g w0 w ρ s σ)
    (h : Go g W kk w0 w ρ σ ((ev F pa false ρ s).bind fun x ρ s => (ev F pb false ρ s).bind fun y ρ s => k x y ρ s) Q)
    (hr : ∀ w2 x y dx dy ρ2 s2, Good g w0 w2 ρ2 s2 σ → Tr g w2 x dx → Tr g w2 y dy → Go g W kk w0 w2 ρ2 σ (k dx dy ρ2 s2) Q → r x y w2.H Q) : tOp r (tI F g W k1 pa) (tI F g W k2 pb) σ w.H Q := by
  refine tI_mono (go_bind (kq := k1) G0 h) fun x H1 ⟨w1, dx, ρ1, s1, M, px, h1⟩ => ?_
  obtain ⟨rfl, G1, S1, O1⟩ := M
  refine tI_mono (go_bind (kq := k2) G1 h1) fun y H2 ⟨w2, dy, ρ2, s2, M, py, h2⟩ => ?_
  obtain ⟨rfl, G2, S2, O2⟩ := M
  exact hr w2 x y dx dy ρ2 s2 G2 ((px.tr G1.ext).step S2) (py.tr G2.ext) h2

/-! ### constants, names -/
theorem r_c {e : Expr} {v : V} {d : D} (he : PE X e (tC v)) (hd : ∀ (g : G) (w : Ws), R g.K g.ol w.al w.Hf v d) {g : G} : PE X e (tI F g W .k (.c d)) := PE.imp he fun σ H Q ⟨w0, w, ρ, s, e, G0, h⟩ => by
  subst e
  exact Go.here G0 h (hd g w)
theorem Good.frz1 {g : G} (G0 : Good g w0 w ρ s σ) {i : Nat} {d : D} (e : ρ[i]? = some (.ow d)) :
    ∃ a w', σ[i]? = some (some (.ref a)) ∧ w'.H = w.H ∧ Good g w0 w' (ρ.set i (.im d)) s σ ∧ Step w w' ∧ Os ρ (ρ.set i (.im d)) ∧ Rw g w' (.ref a) d := by
  obtain ⟨a, o, e1, e2, e3, e4, e5, e6⟩ := G0.ow i d e
  have hi : i < ρ.length := (List.getElem?_eq_some_iff.mp e).1
  have G1 : Good g w0 w (ρ.set i .un) s σ := by
    refine ⟨G0.base, G0.ext, G0.new, by rw [List.length_set]; exact G0.len, fun j d' e' => ?_, fun j d' e' => ?_, fun j d' e' => ?_, fun j k d' d'' a' e' e'' => ?_, fun j c fs e' => by
      by_cases hj : i = j
      · subst hj; rw [List.getElem?_set_self hi] at e'; cases e'
      · rw [List.getElem?_set_ne hj] at e'; exact G0.xc j c fs e'⟩
    · by_cases hj : i = j
      · subst hj; rw [List.getElem?_set_self hi] at e'; cases e'
      · rw [List.getElem?_set_ne hj] at e'; exact G0.im j d' e'
    · by_cases hj : i = j
      · subst hj; rw [List.getElem?_set_self hi] at e'; cases e'
      · rw [List.getElem?_set_ne hj] at e'; exact G0.ow j d' e'
    · by_cases hj : i = j
      · subst hj; rw [List.getElem?_set_self hi] at e'; cases e'
      · rw [List.getElem?_set_ne hj] at e'; exact G0.br j d' e'
    · by_cases hj : i = j
      · subst hj; rw [List.getElem?_set_self hi] at e'; cases e'
      · by_cases hk : i = k
        · subst hk; rw [List.getElem?_set_self hi] at e''; cases e''
        · rw [List.getElem?_set_ne hj] at e'; rw [List.getElem?_set_ne hk] at e''
          exact G0.dis j k d' d'' a' e' e''
  have G2 : Good g w0 (w.frz a o) (ρ.set i .un) s σ := G1.frz e4 e2 e5 e6 fun j d' e' z => by
    by_cases hj : i = j
    · subst hj; rw [List.getElem?_set_self hi] at e'; cases e'
    · rw [List.getElem?_set_ne hj] at e'
      exact hj (G0.dis i j d d' a e e' e1 z)
  have S2 : Step w (w.frz a o) := step_frz G0.base e4
  have r2 : Rw g (w.frz a o) (.ref a) d := by
    cases S2.ro e3 with
    | lst r => exact .lst upd_same r
    | ins c r => exact .obj upd_same c r
  refine ⟨a, w.frz a o, e1, rfl, ⟨G2.base, G2.ext, G2.new, by rw [List.length_set]; exact G0.len, fun j d' e' => ?_, fun j d' e' => ?_, fun j d' e' => ?_, fun j k d' d'' a' e' e'' => ?_, fun j c fs e' => by
    by_cases hj : i = j
    · subst hj; rw [List.getElem?_set_self hi] at e'; cases e'
    · exact G2.xc j c fs (by rw [List.getElem?_set_ne hj] at e' ⊢; exact e')⟩, S2, ⟨fun j d' e' => ?_, fun j d' e' => ?_⟩, r2⟩
  · by_cases hj : i = j
    · subst hj; rw [List.getElem?_set_self hi] at e'; cases e'; exact ⟨_, e1, r2⟩
    · exact G2.im j d' (by rw [List.getElem?_set_ne hj] at e' ⊢; exact e')
  · by_cases hj : i = j
    · subst hj; rw [List.getElem?_set_self hi] at e'; cases e'
    · exact G2.ow j d' (by rw [List.getElem?_set_ne hj] at e' ⊢; exact e')
  · by_cases hj : i = j
    · subst hj; rw [List.getElem?_set_self hi] at e'; cases e'
    · exact G2.br j d' (by rw [List.getElem?_set_ne hj] at e' ⊢; exact e')
  · by_cases hj : i = j
    · subst hj; rw [List.getElem?_set_self hi] at e'; cases e'
    · by_cases hk : i = k
      · subst hk; rw [List.getElem?_set_self hi] at e''; cases e''
      · exact G2.dis j k d' d'' a' (by rw [List.getElem?_set_ne hj] at e' ⊢; exact e') (by rw [List.getElem?_set_ne hk] at e'' ⊢; exact e'')
  · by_cases hj : i = j
    · subst hj; rw [List.getElem?_set_self hi] at e'; cases e'
    · rw [List.getElem?_set_ne hj] at e'; exact e'
  · by_cases hj : i = j
    · subst hj; rw [List.getElem?_set_self hi] at e'; cases e'
    · rw [List.getElem?_set_ne hj] at e'; exact e'
theorem r_v {e : Expr} {i : Nat} (he : PE X e (tVar i)) {g : G} : PE X e (tI F g W .k (.v i)) := PE.imp he fun σ H Q ⟨w0, w, ρ, s, e, G0, h⟩ => by
  subst e
  unfold ev at h
  simp only [fin_f] at h
  split at h
  · rename_i d e
    obtain ⟨v, e1, r⟩ := G0.im i d e
    exact ⟨v, e1, Go.here G0 h r⟩
  · rename_i d e
    obtain ⟨a, w', e1, eH, G2, S2, O2, r2⟩ := G0.frz1 e
    refine ⟨.ref a, e1, ?_⟩
    rw [← eH]
    exact h (.ref a) w' G2 S2 O2 r2
  · rename_i d e
    obtain ⟨v, e1, r⟩ := G0.br i d e
    split at h
    · rename_i f
      exact ⟨v, e1, Go.here G0 h (flat_rw (r.step G0.ext) f)⟩
    · exact h.elim
  · exact h.elim
theorem r_bv {e : Expr} {i : Nat} (he : PE X e (tVar i)) {g : G} : PE X e (tI F g W .b (.bv i)) := PE.imp he fun σ H Q ⟨w0, w, ρ, s, e, G0, h⟩ => by
  subst e
  unfold ev at h
  simp only [fin_f] at h
  split at h
  · rename_i d e
    obtain ⟨v, e1, r⟩ := G0.im i d e
    exact ⟨v, e1, Go.here G0 h (.inl r)⟩
  · rename_i d e
    obtain ⟨a, o, e1, e2, e3, e4, e5, e6⟩ := G0.ow i d e
    exact ⟨.ref a, e1, Go.here G0 h (.inr ⟨a, o, rfl, e2, e5, e3⟩)⟩
  · rename_i d e
    obtain ⟨v, e1, r⟩ := G0.br i d e
    exact ⟨v, e1, Go.here G0 h (r.step G0.ext)⟩
  · exact h.elim
theorem r_sv {e : Expr} {i : Nat} (he : PE X e (tVar i)) {g : G} : PE X e (tI F g W .s (.sv i)) := PE.imp he fun σ H Q ⟨w0, w, ρ, s, e, G0, h⟩ => by
  subst e
  unfold ev at h
  simp only [fin_f] at h
  split at h
  · rename_i d e
    obtain ⟨v, e1, r⟩ := G0.im i d e
    exact ⟨v, e1, Go.here G0 h (.inl r)⟩
  · rename_i d e
    obtain ⟨a, w', e1, eH, G2, S2, O2, r2⟩ := G0.frz1 e
    refine ⟨.ref a, e1, ?_⟩
    rw [← eH]
    exact h (.ref a) w' G2 S2 O2 (.inl r2)
  · rename_i d e
    obtain ⟨v, e1, r⟩ := G0.br i d e
    exact ⟨v, e1, Go.here G0 h (.inr r)⟩
  · exact h.elim

/-! ### operators -/
def rAddStr : R2 := fun x y H Q => ∃ i j, x = .str i ∧ y = .str j ∧ i.length + j.length ≤ sizeLine ∧ Q (.str (i ++ j)) H
def rMulStr : R2 := fun x y H Q => ∃ (i : Str) (n : Int), x = .str i ∧ y = .int n ∧ 0 ≤ n ∧ n ≤ 100000 ∧ i.length * n.toNat ≤ 100000 ∧ Q (.str (repS i n)) H
theorem rep_size (a : Array Nat) : ∀ (m : Nat) (acc : Array Nat), (List.foldl (fun x1 x2 => x1 ++ x2) acc (List.replicate m a)).size = acc.size + m * a.size
  | 0, acc => by simp
  | m + 1, acc => by
    rw [List.replicate_succ, List.foldl_cons, rep_size a m]
    simp only [Array.size_append, Nat.succ_mul]
    omega
theorem op_mul_str : OpR X (binaryOp .Mult) rMulStr := by
  intro pins s σ H x y v u Q I rx ry h
  obtain ⟨i, n, rfl, rfl, h0, h1, hz, q⟩ := h
  obtain ⟨t, rfl⟩ := rx
  obtain ⟨t', rfl⟩ := ry
  refine P.mul_str ?_ (fun a b => ?_) (fun a b => ?_) ?_
  · have e1 : decide (n < -(2 ^ 63 : Int)) = false := decide_eq_false (by omega)
    have e2 : decide (n ≥ 2 ^ 63) = false := decide_eq_false (by omega)
    rw [e1, e2]; rfl
  · have hn : 0 < n := by omega
    intro hh
    have h3 : (i.length : Int) ≤ 100000 := by
      have : i.length * 1 ≤ i.length * n.toNat := Nat.mul_le_mul_left _ (by omega)
      omega
    have h2 : (2 ^ 63 - 1 : Int) / n ≥ 100000 := by
      have : (100000 : Int) * n ≤ 2 ^ 63 - 1 := by omega
      exact (Int.le_ediv_iff_mul_le hn).mpr this
    omega
  · unfold Builtin.Str.tooLong
    exact decide_eq_false (by
      have : (100000 : Nat) ≤ sizeLine := by decide
      omega)
  · unfold repS at q
    split
    · rename_i hh
      rw [if_pos hh] at q
      exact ⟨by decide, .str _, H, I.tok _, ⟨_, rfl⟩, q⟩
    · rename_i hh
      rw [if_neg hh] at q
      split
      · rename_i h5
        rw [if_pos h5] at q
        exact ⟨.str _, H, I, ⟨_, rfl⟩, q⟩
      · rename_i h5
        rw [if_neg h5] at q
        refine ⟨?_, .str _, H, I.tok _, ⟨_, rfl⟩, q⟩
        show (List.foldl (fun x1 x2 => x1 ++ x2) #[] (List.replicate n.toNat i.cps)).size ≤ sizeLine
        rw [rep_size]
        have : i.cps.size * n.toNat ≤ 100000 := hz
        have h9 : (100000 : Nat) ≤ sizeLine := by decide
        have h8 : (#[] : Array Nat).size = 0 := rfl
        rw [h8, Nat.mul_comm]
        omega
def CPowW (i j : Int) : Prop := 0 ≤ j ∧ (PySem.Builtin.Int.intBits i : Int) * j ≤ 2 ^ 27
theorem op_powW {X : Cx} : OpR X (binaryOp .Pow) (rI CPowW fun i j => .int (i ^ j.toNat)) := opI fun _ _ _ _ _ _ _ hc q => pow_int hc.1 hc.2 q
def binR (K : PySem.W.Frag) : Bo → R2
  | .add => fun x y H Q => ((rI0 fun i j => .int (i + j)) x y H Q ∨ rCatA K x y H Q) ∨ rAddStr x y H Q
  | .sub => rI0 fun i j => .int (i - j)
  | .mul => fun x y H Q => (rI CMulW fun i j => .int (i * j)) x y H Q ∨ rMulStr x y H Q
  | .fdiv => rI CDivW fun i j => .int (i / j)
  | .mod => rI (fun _ j => 0 < j) fun i j => .int (i % j)
  | .pow => rI CPowW fun i j => .int (i ^ j.toNat)
def boO : Bo → Operator
  | .add => .Add | .sub => .Sub | .mul => .Mult | .fdiv => .FloorDiv | .mod => .Mod | .pow => .Pow
theorem op_binR (op : Bo) : OpR X (binaryOp (boO op)) (binR X.K op) := by
  cases op with
  | add => exact (op_add.or op_catA).or op_add_str
  | sub => exact op_sub
  | mul => exact op_mulW.or op_mul_str
  | fdiv => exact op_fdivW
  | mod => exact op_mod
  | pow => exact op_powW
theorem r_bin {a b : Expr} {pos : Pos} (op : Bo) (K : X.K = T.g.K) (ha : PE X a (tI F T.g W k1 pa)) (hb : PE X b (tI F T.g W k2 pb)) : PE X (.BinOp a (boO op) b pos) (tI F T.g W .k (.bin op pa pb)) := by
  have h0 := pe_op (pos := pos) (op_binR (X := X) op) ha hb
  refine PE.imp h0 fun σ H Q ⟨w0, w, ρ, s, e, G0, h⟩ => ?_
  subst e
  unfold ev at h
  simp only [fin_f] at h
  refine two_op G0 h fun w2 x y dx dy ρ2 s2 G2 tx ty h2 => ?_
  rw [K]
  cases q : binD op dx dy with
  | none => rw [q] at h2; exact h2.elim
  | some d =>
    rw [q] at h2
    rw [Out.get_some] at h2
    unfold binD at q
    split at q
    · cases q
      cases tx.int; cases ty.int
      exact .inl (.inl ⟨_, _, rfl, rfl, Go.here G2 h2 (.int _)⟩)
    · split at q
      · rename_i hc
        cases q
        cases tx.str; cases ty.str
        exact .inr ⟨_, _, rfl, rfl, cap_ok hc, Go.here G2 h2 (.str _)⟩
      · cases q
    · split at q
      · rename_i hc
        cases q
        cases tx.str; cases ty.int
        exact .inr ⟨_, _, rfl, rfl, hc.1, hc.2.1, of_decide_eq_true hc.2.2, Go.here G2 h2 (.str _)⟩
      · cases q
    · rename_i xs ys
      split at q
      · rename_i hc
        cases q
        obtain ⟨a1, v1, rfl, t1, r1, f1⟩ := tx.tup G2.base
        obtain ⟨a2, v2, rfl, t2, r2, f2⟩ := ty.tup G2.base
        refine .inl (.inr ⟨a1, a2, v1, v2, rfl, rfl, t1, t2, ?_, fun e => ?_, fun _ e => ?_, fun _ _ => ?_⟩)
        · rw [r1.length, r2.length]; exact cap_ok hc
        · subst e
          cases r1
          exact Go.here G2 h2 (.tup f2 r2)
        · subst e
          cases r2
          rw [List.append_nil] at h2
          exact Go.here G2 h2 (.tup f1 r1)
        · exact Go.newK G2 h2 fun p hp => .tup (SqT.of upd_same) ((step_upF G2.base hp).rs (r1.append r2))
      · cases q
    · cases q
      cases tx.int; cases ty.int
      exact ⟨_, _, rfl, rfl, Go.here G2 h2 (.int _)⟩
    · split at q
      · rename_i hc
        cases q
        cases tx.int; cases ty.int
        exact .inl ⟨_, _, rfl, rfl, hc, Go.here G2 h2 (.int _)⟩
      · cases q
    · split at q
      · rename_i hc
        cases q
        cases tx.int; cases ty.int
        exact ⟨_, _, rfl, rfl, hc, Go.here G2 h2 (.int _)⟩
      · cases q
    · split at q
      · rename_i hc
        cases q
        cases tx.int; cases ty.int
        exact ⟨_, _, rfl, rfl, hc, Go.here G2 h2 (.int _)⟩
      · cases q
    · split at q
      · rename_i hc
        cases q
        cases tx.int; cases ty.int
        exact ⟨_, _, rfl, rfl, ⟨hc.1, bits_mul_le hc.2.2 hc.1 hc.2.1⟩, Go.here G2 h2 (.int _)⟩
      · split at q
        · rename_i hc
          cases q
          cases tx.int; cases ty.int
          exact ⟨_, _, rfl, rfl, hc, Go.here G2 h2 (.int _)⟩
        · cases q
    · cases q
theorem r_cat {a b : Expr} {pos : Pos} (K : X.K = T.g.K) (ha : PE X a (tI F T.g W k1 pa)) (hb : PE X b (tI F T.g W k2 pb)) : PE X (.BinOp a .Add b pos) (tI F T.g W .f (.cat pa pb)) := by
  have h0 := pe_op (pos := pos) (op_cat (X := X)) ha hb
  refine PE.imp h0 fun σ H Q ⟨w0, w, ρ, s, e, G0, h⟩ => ?_
  subst e
  unfold ev at h
  simp only [fin_f] at h
  refine two_op G0 h fun w2 x y dx dy ρ2 s2 G2 tx ty h2 => ?_
  split at h2
  · rename_i xs ys
    split at h2
    · rename_i hc
      obtain ⟨a1, v1, rfl, t1, r1⟩ := tx.lst G2.base
      obtain ⟨a2, v2, rfl, t2, r2⟩ := ty.lst G2.base
      refine ⟨a1, a2, v1, v2, rfl, rfl, t1, t2, ?_, ?_⟩
      · rw [r1.length, r2.length]; exact cap_ok hc
      · exact Go.newF G2 h2 (.lst (r1.append r2))
    · exact h2.elim
  · exact h2.elim
end
end Z

namespace Z
open PySem PySem.Spec PyProof.Rows L2
section
variable {X : Cx}
/-- x in a tuple of data of any depth -/
def rInDT (K : PySem.W.Frag) : R2 := fun x y H Q => ∃ d ds, Dp K H x d ∧ Dp K H y (.tuple ds) ∧ SeqAt.shaped d = true ∧ SeqAt.shaped (.tuple ds) = true ∧ Q (.bl (ds.any fun z => PyData.eqv z d)) H
def rNotInDT (K : PySem.W.Frag) : R2 := fun x y H Q => ∃ d ds, Dp K H x d ∧ Dp K H y (.tuple ds) ∧ SeqAt.shaped d = true ∧ SeqAt.shaped (.tuple ds) = true ∧ Q (.bl (!ds.any fun z => PyData.eqv z d)) H
theorem op_inDT (hu : X.A.units + 65 < cLine) : OpR X (compareOp .In) (rInDT X.K) := by
  intro pins s σ H x y v u Q I rx ry h
  obtain ⟨d, ds, hd, he, sd, se, q⟩ := h
  obtain ⟨as, r1⟩ := Dp.reads I d x v hd rx
  obtain ⟨bs, r2⟩ := Dp.reads I (.tuple ds) y u he ry
  exact SeqAt.in_tuple_reads r2 r1 (SeqAt.canLay_of_shaped se) (SeqAt.canLay_of_shaped sd) (by have := SeqAt.depth_of_shaped sd; omega) ⟨.bl _, H, I, rfl, q⟩
theorem op_notInDT (hu : X.A.units + 65 < cLine) : OpR X (compareOp .NotIn) (rNotInDT X.K) := by
  intro pins s σ H x y v u Q I rx ry h
  obtain ⟨d, ds, hd, he, sd, se, q⟩ := h
  obtain ⟨as, r1⟩ := Dp.reads I d x v hd rx
  obtain ⟨bs, r2⟩ := Dp.reads I (.tuple ds) y u he ry
  exact SeqAt.notIn_tuple_reads r2 r1 (SeqAt.canLay_of_shaped se) (SeqAt.canLay_of_shaped sd) (by have := SeqAt.depth_of_shaped sd; omega) ⟨.bl _, H, I, rfl, q⟩
end
section
variable {F : Fs} {T : Tb} {N : List Str} {sc : Scope} {ow : Str → Bool} {W : WX} {X : Cx} {p q pa pb pc : Ex} {w0 w w1 w2 : Ws} {ρ ρ1 : En} {s s1 : List D} {σ : L2.St} {H : Hp} {Q : VK} {k1 k2 k3 : Kd} {kk : Kd}
/-! ### comparisons -/
def coO : Co → CmpOp
  | .eq => .Eq | .ne => .NotEq | .lt => .Lt | .le => .LtE | .gt => .Gt | .ge => .GtE | .isN => .Is | .notN => .IsNot | .inn => .In | .nin => .NotIn
def rLtS : R2 := fun x y H Q => ∃ i j, x = .str i ∧ y = .str j ∧ Q (.bl (decide (i.cps.toList < j.cps.toList))) H
def rLeS : R2 := fun x y H Q => ∃ i j, x = .str i ∧ y = .str j ∧ Q (.bl (!decide (j.cps.toList < i.cps.toList))) H
def rInSg : R2 := fun x y H Q => ∃ (c : Nat) (z : Str), x = .str ⟨#[c]⟩ ∧ y = .str z ∧ Q (.bl (decide (c ∈ z.cps.toList))) H
def rNotInSg : R2 := fun x y H Q => ∃ (c : Nat) (z : Str), x = .str ⟨#[c]⟩ ∧ y = .str z ∧ Q (.bl (!decide (c ∈ z.cps.toList))) H
def cmpR (K : PySem.W.Frag) : Co → R2
  | .eq => fun x y H Q => rEq x y H Q ∨ rEqD K x y H Q
  | .ne => fun x y H Q => rNe x y H Q ∨ rNeD K x y H Q
  | .lt => fun x y H Q => ((rI0 fun i j => .bl (decide (i < j))) x y H Q ∨ rLtT K x y H Q) ∨ rLtS x y H Q
  | .le => fun x y H Q => (rI0 fun i j => .bl (decide (i ≤ j))) x y H Q ∨ rLeS x y H Q
  | .gt => rI0 fun i j => .bl (decide (j < i))
  | .ge => rI0 fun i j => .bl (decide (j ≤ i))
  | .isN => fun x y H Q => y = .non ∧ Q (.bl (decide (x = .non))) H
  | .notN => fun x y H Q => y = .non ∧ Q (.bl (!decide (x = .non))) H
  | .inn => fun x y H Q => (rInD K x y H Q ∨ rInDT K x y H Q) ∨ rInSg x y H Q
  | .nin => fun x y H Q => (rNotInD K x y H Q ∨ rNotInDT K x y H Q) ∨ rNotInSg x y H Q
theorem op_cmpR {k : Nat} (hr : Room k X.A) (op : Co) : OpR X (compareOp (coO op)) (cmpR X.K op) := by
  have hu := hr.units
  have hu2 : X.A.units + 65 < cLine := by have := hr.un; omega
  cases op with
  | eq => exact op_eq.or (op_eqD hu)
  | ne => exact op_ne.or (op_neD hu)
  | lt => exact (op_lt.or (op_ltT hr.units0)).or op_lt_str
  | le => exact op_le.or op_le_str
  | gt => exact op_gt
  | ge => exact op_ge
  | isN => exact op_isN
  | notN => exact op_notN
  | inn => exact ((op_inD hu2).or (op_inDT hu2)).or op_in_sign
  | nin => exact ((op_notInD hu2).or (op_notInDT hu2)).or op_notIn_sign
theorem eqS_ok {g : G} {x y : V} {dx dy : D} {b : Bool} (B : Base g w s) (tx : Tr g w x dx) (ty : Tr g w y dy) (h : eqS dx dy = some b) {Q : VK} (q : Q (.bl b) w.H) : rEq x y w.H Q ∨ rEqD g.K x y w.H Q := by
  unfold eqS at h
  split at h
  · cases h
    cases tx.int; cases ty.int
    refine .inl ⟨rfl, ?_⟩
    rw [dec_int, Bool.beq_eq_decide_eq]; exact q
  · cases h
    cases tx.str; cases ty.str
    refine .inl ⟨rfl, ?_⟩
    rw [dec_str, Bool.beq_eq_decide_eq]; exact q
  · cases h
    cases tx.bl; cases ty.bl
    refine .inl ⟨rfl, ?_⟩
    rw [dec_bl, Bool.beq_eq_decide_eq]; exact q
  · unfold eqD at h
    split at h
    · rename_i px py' e1 e2
      split at h
      · rename_i hs
        cases h
        obtain ⟨h1, h2⟩ := Bool.and_eq_true_iff.mp hs
        exact .inr ⟨px, py', tx.dp B e1, ty.dp B e2, h1, h2, q⟩
      · cases h
    · cases h
theorem neS_ok {g : G} {x y : V} {dx dy : D} {b : Bool} (B : Base g w s) (tx : Tr g w x dx) (ty : Tr g w y dy) (h : eqS dx dy = some b) {Q : VK} (q : Q (.bl (!b)) w.H) : rNe x y w.H Q ∨ rNeD g.K x y w.H Q := by
  unfold eqS at h
  split at h
  · cases h
    cases tx.int; cases ty.int
    refine .inl ⟨rfl, ?_⟩
    rw [dec_int, Bool.beq_eq_decide_eq]; exact q
  · cases h
    cases tx.str; cases ty.str
    refine .inl ⟨rfl, ?_⟩
    rw [dec_str, Bool.beq_eq_decide_eq]; exact q
  · cases h
    cases tx.bl; cases ty.bl
    refine .inl ⟨rfl, ?_⟩
    rw [dec_bl, Bool.beq_eq_decide_eq]; exact q
  · unfold eqD at h
    split at h
    · rename_i px py' e1 e2
      split at h
      · rename_i hs
        cases h
        obtain ⟨h1, h2⟩ := Bool.and_eq_true_iff.mp hs
        exact .inr ⟨px, py', tx.dp B e1, ty.dp B e2, h1, h2, q⟩
      · cases h
    · cases h
theorem py_lst {xs : List D} {ds : List PyData} (h : pys xs = some ds) : py (.lst xs) = some (.list ds) := by
  unfold py; rw [h]; rfl
theorem py_tup {xs : List D} {ds : List PyData} (h : pys xs = some ds) : py (.tup xs) = some (.tuple ds) := by
  unfold py; rw [h]; rfl
theorem memD_ok {g : G} {x y : V} {dx dy : D} {b : Bool} (B : Base g w s) (tx : Tr g w x dx) (ty : Tr g w y dy) (h : memD dx dy = some b) {Q : VK} (q : Q (.bl b) w.H) : (rInD g.K x y w.H Q ∨ rInDT g.K x y w.H Q) ∨ rInSg x y w.H Q := by
  unfold memD at h
  split at h
  · split at h
    · rename_i d ds e1 e2
      split at h
      · rename_i hs
        cases h
        obtain ⟨h1, h2⟩ := Bool.and_eq_true_iff.mp hs
        exact .inl (.inl ⟨d, ds, tx.dp B e1, ty.dp B (py_lst e2), h1, h2, q⟩)
      · cases h
    · cases h
  · split at h
    · rename_i d ds e1 e2
      split at h
      · rename_i hs
        cases h
        obtain ⟨h1, h2⟩ := Bool.and_eq_true_iff.mp hs
        exact .inl (.inr ⟨d, ds, tx.dp B e1, ty.dp B (py_tup e2), h1, h2, q⟩)
      · cases h
    · cases h
  · split at h
    · rename_i yy
      split at h
      · rename_i c e
        cases h
        cases tx.str; cases ty.str
        have e' : yy = ⟨#[c]⟩ := by cases yy; cases e; rfl
        rw [e']
        exact .inr ⟨c, _, rfl, rfl, q⟩
      · cases h
    · cases h
  · cases h
theorem nmemD_ok {g : G} {x y : V} {dx dy : D} {b : Bool} (B : Base g w s) (tx : Tr g w x dx) (ty : Tr g w y dy) (h : memD dx dy = some b) {Q : VK} (q : Q (.bl (!b)) w.H) : (rNotInD g.K x y w.H Q ∨ rNotInDT g.K x y w.H Q) ∨ rNotInSg x y w.H Q := by
  unfold memD at h
  split at h
  · split at h
    · rename_i d ds e1 e2
      split at h
      · rename_i hs
        cases h
        obtain ⟨h1, h2⟩ := Bool.and_eq_true_iff.mp hs
        exact .inl (.inl ⟨d, ds, tx.dp B e1, ty.dp B (py_lst e2), h1, h2, q⟩)
      · cases h
    · cases h
  · split at h
    · rename_i d ds e1 e2
      split at h
      · rename_i hs
        cases h
        obtain ⟨h1, h2⟩ := Bool.and_eq_true_iff.mp hs
        exact .inl (.inr ⟨d, ds, tx.dp B e1, ty.dp B (py_tup e2), h1, h2, q⟩)
      · cases h
    · cases h
  · split at h
    · rename_i yy
      split at h
      · rename_i c e
        cases h
        cases tx.str; cases ty.str
        have e' : yy = ⟨#[c]⟩ := by cases yy; cases e; rfl
        rw [e']
        exact .inr ⟨c, _, rfl, rfl, q⟩
      · cases h
    · cases h
  · cases h
theorem ints_ok {K : PySem.W.Frag} {cl : Nat → Option Addr} {al : List Addr} {Hf : Hp} : ∀ {xs : List D} {vs : List V} {ns : List Int}, Rs K cl al Hf vs xs → intsOf xs = some ns → vs = ns.map V.int
  | [], _, _, .nil, h => by cases h; rfl
  | .int i :: r, _, _, .cons (.int _) t, h => by
    unfold intsOf at h
    cases q : intsOf r with
    | none => rw [q] at h; cases h
    | some ms => rw [q] at h; cases h; rw [ints_ok t q]; rfl
theorem isN_ok {g : G} {x : V} {d : D} (tx : Tr g w x d) : decide (x = .non) = isNon d := by
  rcases tx with h | ⟨a, o, rfl, _, _, r⟩
  · cases h <;> rfl
  · cases r <;> rfl
theorem cmp_ok {g : G} {op : Co} {x y : V} {dx dy : D} {b : Bool} (B : Base g w s) (tx : Tr g w x dx) (ty : Tr g w y dy) (h : cmpD op dx dy = some b) {Q : VK} (q : Q (.bl b) w.H) : cmpR g.K op x y w.H Q := by
  unfold cmpD at h
  split at h
  · exact eqS_ok B tx ty h q
  · obtain ⟨b', q2, e⟩ := Option.map_eq_some_iff.mp h
    subst e
    exact neS_ok B tx ty q2 q
  · cases h; cases tx.int; cases ty.int
    exact .inl (.inl ⟨_, _, rfl, rfl, q⟩)
  · split at h
    · rename_i e1 e2
      cases h
      obtain ⟨a1, v1, rfl, t1, r1, _⟩ := tx.tup B
      obtain ⟨a2, v2, rfl, t2, r2, _⟩ := ty.tup B
      cases ints_ok r1 e1
      cases ints_ok r2 e2
      exact .inl (.inr ⟨_, _, _, _, rfl, rfl, t1, t2, q⟩)
    · cases h
  · cases h; cases tx.str; cases ty.str
    exact .inr ⟨_, _, rfl, rfl, q⟩
  · cases h; cases tx.int; cases ty.int
    exact .inl ⟨_, _, rfl, rfl, q⟩
  · cases h; cases tx.str; cases ty.str
    exact .inr ⟨_, _, rfl, rfl, q⟩
  · cases h; cases tx.int; cases ty.int
    exact ⟨_, _, rfl, rfl, q⟩
  · cases h; cases tx.int; cases ty.int
    exact ⟨_, _, rfl, rfl, q⟩
  · cases h
    exact ⟨ty.non, by rw [isN_ok tx]; exact q⟩
  · cases h
    exact ⟨ty.non, by rw [isN_ok tx]; exact q⟩
  · exact memD_ok B tx ty h q
  · obtain ⟨b', q2, e⟩ := Option.map_eq_some_iff.mp h
    subst e
    exact nmemD_ok B tx ty q2 q
  · cases h
theorem cmp_op {g : G} {op : Co} (G0 : Good g w0 w ρ s σ) (h : Go g W kk w0 w ρ σ ((ev F pa false ρ s).bind fun x ρ s => (ev F pb false ρ s).bind fun y ρ s => Out.get ((cmpD op x y).map D.bl) ρ s) Q) (hk : kk = .k) :
    tOp (cmpR g.K op) (tI F g W k1 pa) (tI F g W k2 pb) σ w.H Q := two_op G0 h fun w2 x y dx dy ρ2 s2 G2 tx ty h2 => by
  cases q : cmpD op dx dy with
  | none => rw [q] at h2; exact h2.elim
  | some b =>
    rw [q] at h2
    subst hk
    exact cmp_ok G2.base tx ty q (Go.here G2 h2 (.bl b))
theorem r_cmp {a b : Expr} {pos : Pos} {k : Nat} (op : Co) (K : X.K = T.g.K) (hr : Room k X.A) (hm : behindInMarks (coO op) b = false) (ha : PE X a (tI F T.g W k1 pa)) (hb : PE X b (tI F T.g W k2 pb)) :
    PE X (.Compare a [coO op] [b] pos) (tI F T.g W .k (.cmp op pa pb)) ∧ PT X (.Compare a [coO op] [b] pos) (tT F T.g W (.cmp op pa pb)) := by
  refine ⟨PE.imp (pe_cmpR (op_cmpR hr op) ha hb hm) fun σ H Q ⟨w0, w, ρ, s, e, G0, h⟩ => ?_, PT.imp (pt_cmpR (op_cmpR hr op) ha hb hm) fun σ H Q ⟨w0, w, ρ, s, e, G0, h⟩ => ?_⟩
  · subst e
    unfold ev at h
    simp only [fin_f] at h
    rw [K]
    exact cmp_op G0 h rfl
  · subst e
    rw [K]
    show tOp (cmpR T.g.K op) (tI F T.g W k1 pa) (tI F T.g W k2 pb) σ w.H (fun x H' => ∃ k, x = .bl k ∧ Q k H')
    refine cmp_op (kk := .k) (W := W) G0 ?_ rfl
    unfold ev at h
    cases q1 : ev F pa false ρ s with
    | bad => rw [q1] at h; exact h
    | exc c fs ρ' s' => rw [q1] at h; exact h
    | ok dx ρ1 s1 =>
      rw [q1] at h
      show Go _ _ _ _ _ _ _ ((ev F pb false ρ1 s1).bind _) _
      have h' : GoT T.g W w0 w ρ σ (fin true ((ev F pb false ρ1 s1).bind fun y ρ s => Out.get ((cmpD op dx y).map D.bl) ρ s)) Q := h
      cases q2 : ev F pb false ρ1 s1 with
      | bad => rw [q2] at h'; exact h'
      | exc c fs ρ' s' => rw [q2] at h'; exact h'
      | ok dy ρ2 s2 =>
        rw [q2] at h'
        show Go _ _ _ _ _ _ _ (Out.get ((cmpD op dx dy).map D.bl) ρ2 s2) _
        have h2 : GoT T.g W w0 w ρ σ (fin true (Out.get ((cmpD op dx dy).map D.bl) ρ2 s2)) Q := h'
        cases q3 : cmpD op dx dy with
        | none => rw [q3] at h2; exact h2
        | some b =>
          rw [q3] at h2
          obtain ⟨b', e, z⟩ := h2
          cases e
          intro v w' G1 S O hp
          cases hp
          exact ⟨b, rfl, z w' G1 S O⟩
end
end Z

namespace Z
open PySem PySem.Spec PyProof.Rows L2
section
variable {F : Fs} {T : Tb} {N : List Str} {sc : Scope} {ow : Str → Bool} {W : WX} {X : Cx} {p q pa pb pc : Ex} {w0 w w1 w2 : Ws} {ρ ρ1 : En} {s s1 : List D} {σ : L2.St} {H : Hp} {Q : VK} {k1 k2 k3 : Kd} {kk : Kd}
theorem tru_okD {g : G} {v : V} {d : D} {b : Bool} (B : Base g w s) (t : Tr g w v d) (h : truth d = some b) : TruV g.K v w.H b := by
  unfold truth at h
  split at h
  · cases h; cases t.non; rfl
  · cases h; cases t.bl; rfl
  · cases h; cases t.int; rfl
  · cases h
    obtain ⟨a, xs, rfl, h1, r, _⟩ := t.tup B
    refine .inr (.inl ⟨xs, h1, ?_⟩)
    cases r <;> rfl
  · cases h
    obtain ⟨a, xs, rfl, h1, r⟩ := t.lst B
    refine .inl ⟨xs, SqL.of h1, ?_⟩
    cases r <;> rfl
  · cases h
theorem r_truth {e : Expr} (hp : ∀ ρ s, ev F p true ρ s = fin true (ev F p false ρ s)) (K : X.K = T.g.K) (ha : PE X e (tI F T.g W k1 p)) (he : ∀ whole, isTrue e X.env whole = (do let v ← whole; standAt e.pos; holding [v] (truthy v))) : PT X e (tT F T.g W p) := by
  refine PT.imp (pt_truth ha he) fun σ H Q ⟨w0, w, ρ, s, e, G0, h⟩ => ?_
  subst e
  rw [hp] at h
  have h' : GoT T.g W w0 w ρ σ ((ev F p false ρ s).bind fun x ρ s => Out.get ((truth x).map D.bl) ρ s) Q := h
  refine tI_mono (go_bindT (kq := k1) G0 h') fun x H1 ⟨w1, d, ρ1, s1, M, pd, h1⟩ => ?_
  obtain ⟨rfl, G1, S1, O1⟩ := M
  cases q : truth d with
  | none => rw [q] at h1; exact h1.elim
  | some b =>
    rw [q] at h1
    obtain ⟨b', e, z⟩ := h1
    cases e
    rw [K]
    exact ⟨b, tru_okD G1.base (pd.tr G1.ext) q, z w1 G1 (Step.refl _) (Os.refl _)⟩
theorem r_neg {a : Expr} {pos : Pos} (ha : PE X a (tI F T.g W k1 pa)) : PE X (.UnaryOp .USub a pos) (tI F T.g W .k (.neg pa)) := by
  refine PE.imp (pe_un un_neg ha) fun σ H Q ⟨w0, w, ρ, s, e, G0, h⟩ => ?_
  subst e
  unfold ev at h
  simp only [fin_f] at h
  refine tI_mono (go_bind (kq := k1) G0 h) fun x H1 ⟨w1, d, ρ1, s1, M, pd, h1⟩ => ?_
  obtain ⟨rfl, G1, S1, O1⟩ := M
  have t := pd.tr G1.ext
  split at h1
  · cases t.int
    exact ⟨_, rfl, Go.here G1 h1 (.int _)⟩
  · exact h1.elim
theorem r_not {a : Expr} {pos : Pos} (ha : PE X a (tI F T.g W k1 pa)) (ht : PT X a (tT F T.g W pa)) :
    PE X (.UnaryOp .Not a pos) (tI F T.g W .k (.nt pa)) ∧ PT X (.UnaryOp .Not a pos) (tT F T.g W (.nt pa)) := by
  refine ⟨PE.imp (pe_not ha) fun σ H Q ⟨w0, w, ρ, s, e, G0, h⟩ => ?_, PT.imp (pt_not ht) fun σ H Q ⟨w0, w, ρ, s, e, G0, h⟩ => ?_⟩
  · subst e
    unfold ev at h
    refine tI_mono (go_bind (kq := k1) G0 h) fun x H1 ⟨w1, d, ρ1, s1, M, pd, h1⟩ => ?_
    obtain ⟨rfl, G1, S1, O1⟩ := M
    have t := pd.tr G1.ext
    split at h1
    · cases t.bl
      exact ⟨_, rfl, Go.here G1 h1 (.bl _)⟩
    · exact h1.elim
  · subst e
    unfold ev at h
    obtain ⟨w0', w', ρ', s', e', G', z⟩ := goT_bindT G0 (by intro d ρ1 s1 hn; cases d <;> first | rfl | exact absurd rfl (hn _)) h
    refine ⟨w0', w', ρ', s', e', G', ?_⟩
    cases q : ev F pa true ρ' s' with
    | bad => rw [q] at z; exact z
    | exc c fs ρ s => rw [q] at z; exact z
    | ok d ρ1 s1 =>
      rw [q] at z
      obtain ⟨b, e, z⟩ := z
      refine ⟨b, e, fun w1 G1 S1 O1 => ?_⟩
      obtain ⟨w2, ρ2, s2, M, b', e2, y⟩ := z w1 G1 S1 O1
      cases e2
      rw [← M.h]
      exact y w2 M.good (Step.refl _) (Os.refl _)
theorem tT_mono {P P' : Bool → Hp → Prop} (h : tT F T.g W p σ H P) (i : ∀ v H', P v H' → P' v H') : tT F T.g W p σ H P' := by
  obtain ⟨w0, w, ρ, s, e, G0, z⟩ := h
  refine ⟨w0, w, ρ, s, e, G0, ?_⟩
  cases q : ev F p true ρ s with
  | ok d ρ' s' =>
    rw [q] at z
    obtain ⟨b, e, z⟩ := z
    exact ⟨b, e, fun w' a b c => i _ _ (z w' a b c)⟩
  | exc c fs ρ' s' => rw [q] at z; exact z
  | bad => rw [q] at z; exact z
theorem blcase {k : Out} {ke : Bool → Out} (d : D) (f : D → Out) (hf : ∀ b, f (.bl b) = ke b) (hn : ∀ b, d ≠ .bl b) (hb : ∀ d, (∀ b, d ≠ .bl b) → f d = .bad) : f d = .bad := hb d hn
/-- a and b: as a value, as a test -/
theorem r_andV {a b : Expr} {rest : List Expr} {pos : Pos} (ha : PE X a (tI F T.g W k1 pa)) (hb : PE X (.BoolOp .And (b :: rest) pos) (tI F T.g W .k pb)) : PE X (.BoolOp .And (a :: b :: rest) pos) (tI F T.g W .k (.an pa pb)) := by
  refine PE.imp (pe_and ha hb) fun σ H Q ⟨w0, w, ρ, s, e, G0, h⟩ => ?_
  subst e
  unfold ev at h
  refine tI_mono (go_bind (kq := k1) G0 h) fun x H1 ⟨w1, d, ρ1, s1, M, pd, h1⟩ => ?_
  obtain ⟨rfl, G1, S1, O1⟩ := M
  have t := pd.tr G1.ext
  split at h1
  · cases t.bl
    exact ⟨true, rfl, iteT ⟨w0, w1, ρ1, s1, rfl, G1, h1⟩⟩
  · cases t.bl
    exact ⟨false, rfl, iteF (Go.here G1 h1 (.bl _))⟩
  · exact h1.elim
theorem r_orV {a b : Expr} {rest : List Expr} {pos : Pos} (ha : PE X a (tI F T.g W k1 pa)) (hb : PE X (.BoolOp .Or (b :: rest) pos) (tI F T.g W .k pb)) : PE X (.BoolOp .Or (a :: b :: rest) pos) (tI F T.g W .k (.orr pa pb)) := by
  refine PE.imp (pe_or ha hb) fun σ H Q ⟨w0, w, ρ, s, e, G0, h⟩ => ?_
  subst e
  unfold ev at h
  refine tI_mono (go_bind (kq := k1) G0 h) fun x H1 ⟨w1, d, ρ1, s1, M, pd, h1⟩ => ?_
  obtain ⟨rfl, G1, S1, O1⟩ := M
  have t := pd.tr G1.ext
  split at h1
  · cases t.bl
    exact ⟨true, rfl, iteT (Go.here G1 h1 (.bl _))⟩
  · cases t.bl
    exact ⟨false, rfl, iteF ⟨w0, w1, ρ1, s1, rfl, G1, h1⟩⟩
  · exact h1.elim
theorem bad_of {f : Bool → Out} {d : D} (hn : ∀ b, d ≠ .bl b) {a b : Out} : (match d with | .bl true => a | .bl false => b | _ => Out.bad) = .bad := by
  cases d with
  | bl b => exact absurd rfl (hn b)
  | _ => rfl
theorem r_andT {a b : Expr} {rest : List Expr} {pos : Pos} (ha : PT X a (tT F T.g W pa)) (hb : PW X (.BoolOp .And (b :: rest) pos) (tT F T.g W pb)) : PW X (.BoolOp .And (a :: b :: rest) pos) (tT F T.g W (.an pa pb)) := by
  refine ⟨fun wh pins sh σ H Q I ⟨w0, w, ρ, s, e, G0, h⟩ => (pw_and ha hb).run wh pins sh σ H Q I ?_⟩
  subst e
  unfold ev at h
  refine tT_mono (goT_bindT G0 (by intro d ρ1 s1 hn; cases d <;> first | rfl | exact absurd rfl (hn _)) h) fun b H1 ⟨w1, ρ1, s1, M, h1⟩ => ?_
  obtain ⟨rfl, G1, S1, O1⟩ := M
  cases b with
  | true => exact iteT ⟨w0, w1, ρ1, s1, rfl, G1, h1⟩
  | false =>
    obtain ⟨b', e, z⟩ := h1
    cases e
    exact iteF (z w1 G1 (Step.refl _) (Os.refl _))
theorem r_orT {a b : Expr} {rest : List Expr} {pos : Pos} (ha : PT X a (tT F T.g W pa)) (hb : PW X (.BoolOp .Or (b :: rest) pos) (tT F T.g W pb)) : PW X (.BoolOp .Or (a :: b :: rest) pos) (tT F T.g W (.orr pa pb)) := by
  refine ⟨fun wh pins sh σ H Q I ⟨w0, w, ρ, s, e, G0, h⟩ => (pw_or ha hb).run wh pins sh σ H Q I ?_⟩
  subst e
  unfold ev at h
  refine tT_mono (goT_bindT G0 (by intro d ρ1 s1 hn; cases d <;> first | rfl | exact absurd rfl (hn _)) h) fun b H1 ⟨w1, ρ1, s1, M, h1⟩ => ?_
  obtain ⟨rfl, G1, S1, O1⟩ := M
  cases b with
  | false => exact iteF ⟨w0, w1, ρ1, s1, rfl, G1, h1⟩
  | true =>
    obtain ⟨b', e, z⟩ := h1
    cases e
    exact iteT (z w1 G1 (Step.refl _) (Os.refl _))
theorem r_ife {c a b : Expr} {pos : Pos} (hc : PT X c (tT F T.g W pc)) (ha : PE X a (tI F T.g W .k pa)) (hb : PE X b (tI F T.g W .k pb)) : PE X (.IfExp c a b pos) (tI F T.g W .k (.ife pc pa pb)) := by
  refine PE.imp (pe_ifExp hc ha hb) fun σ H Q ⟨w0, w, ρ, s, e, G0, h⟩ => ?_
  subst e
  unfold ev at h
  refine tT_mono (goT_bind G0 (by intro d ρ1 s1 hn; cases d <;> first | rfl | exact absurd rfl (hn _)) h) fun b H1 ⟨w1, ρ1, s1, M, h1⟩ => ?_
  obtain ⟨rfl, G1, S1, O1⟩ := M
  cases b with
  | true => exact iteT ⟨w0, w1, ρ1, s1, rfl, G1, h1⟩
  | false => exact iteF ⟨w0, w1, ρ1, s1, rfl, G1, h1⟩
/-! ### a < b < c -/
theorem r_ch {a b c : Expr} {pos : Pos} {k : Nat} (op op' : Co) (K : X.K = T.g.K) (hr : Room k X.A) (ho : op ≠ .inn ∧ op ≠ .nin) (ho' : op' ≠ .inn ∧ op' ≠ .nin) (ha : PE X a (tI F T.g W k1 pa)) (hb : PE X b (tI F T.g W k2 pb)) (hc : PE X c (tI F T.g W k3 pc))
    (h0 : PE X (.Compare a [coO op, coO op'] [b, c] pos) (tChain (cmpR X.K op) (cmpR X.K op') (tI F T.g W k1 pa) (tI F T.g W k2 pb) (tI F T.g W k3 pc))) : PE X (.Compare a [coO op, coO op'] [b, c] pos) (tI F T.g W .k (.ch op op' pa pb pc)) := by
  refine PE.imp h0 fun σ H Q ⟨w0, w, ρ, s, e, G0, h⟩ => ?_
  subst e
  unfold ev at h
  simp only [fin_f] at h
  refine tI_mono (go_bind (kq := k1) G0 h) fun x H1 ⟨w1, dx, ρ1, s1, M, px, h1⟩ => ?_
  obtain ⟨rfl, G1, S1, O1⟩ := M
  refine tI_mono (go_bind (kq := k2) G1 h1) fun y H2 ⟨w2, dy, ρ2, s2, M, py, h2⟩ => ?_
  obtain ⟨rfl, G2, S2, O2⟩ := M
  have tx := (px.tr G1.ext).step S2
  have ty := py.tr G2.ext
  rw [K]
  cases q : cmpD op dx dy with
  | none => rw [q] at h2; exact h2.elim
  | some b1 =>
    rw [q] at h2
    refine cmp_ok G2.base tx ty q ⟨b1, rfl, ?_⟩
    cases b1 with
    | false => exact iteF (Go.here G2 h2 (.bl _))
    | true =>
      refine iteT (tI_mono (go_bind (kq := k3) G2 h2) fun z H3 ⟨w3, dz, ρ3, s3, M, pz, h3⟩ => ?_)
      obtain ⟨rfl, G3, S3, O3⟩ := M
      cases q3 : cmpD op' dy dz with
      | none => rw [q3] at h3; exact h3.elim
      | some b2 =>
        rw [q3] at h3
        exact cmp_ok G3.base (ty.step S3) (pz.tr G3.ext) q3 (Go.here G3 h3 (.bl _))
/-! ### items -/
theorem atI_rs {K : PySem.W.Frag} {cl : Nat → Option Addr} {al : List Addr} {Hf : Hp} {vs : List V} {ds : List D} {i : Int} {d : D} (r : Rs K cl al Hf vs ds) (h : atI ds i = some d) : ∃ v, atI vs i = some v ∧ R K cl al Hf v d := by
  unfold atI at h ⊢
  rw [r.length]
  cases q : ixN ds.length i with
  | none => rw [q] at h; cases h
  | some j =>
    rw [q] at h
    obtain ⟨v, a, b⟩ := r.get (i := j) h
    exact ⟨v, a, b⟩
theorem r_ix {a b : Expr} {pos : Pos} (K : X.K = T.g.K) (hs : PlainIx b) (ha : PE X a (tI F T.g W k1 pa)) (hb : PE X b (tI F T.g W k2 pb)) : PE X (.Subscript a b pos) (tI F T.g W .k (.ix pa pb)) := by
  refine PE.imp (pe_ix ix_seq ha hb hs) fun σ H Q ⟨w0, w, ρ, s, e, G0, h⟩ => ?_
  subst e
  unfold ev at h
  simp only [fin_f] at h
  refine two_op G0 h fun w2 x y dx dy ρ2 s2 G2 tx ty h2 => ?_
  rw [K]
  unfold ixD at h2
  split at h2
  · rename_i ds i
    cases ty.int
    obtain ⟨p, xs, rfl, t1, r, _⟩ := tx.tup G2.base
    cases q : atI ds i with
    | none => rw [q] at h2; exact h2.elim
    | some d =>
      rw [q] at h2
      obtain ⟨v, e1, e2⟩ := atI_rs r q
      exact .inr (.inl ⟨p, xs, _, v, rfl, rfl, t1, e1, Go.here G2 h2 e2⟩)
  · rename_i ds i
    cases ty.int
    obtain ⟨p, xs, rfl, t1, r⟩ := tx.lst G2.base
    cases q : atI ds i with
    | none => rw [q] at h2; exact h2.elim
    | some d =>
      rw [q] at h2
      obtain ⟨v, e1, e2⟩ := atI_rs r q
      exact .inl ⟨p, xs, _, v, rfl, rfl, SqL.of t1, e1, Go.here G2 h2 e2⟩
  · rename_i ds i
    cases ty.int
    obtain ⟨p, rfl, t1⟩ := tx.scr G2.base
    cases q : atI ds i with
    | none => rw [q] at h2; exact h2.elim
    | some d =>
      rw [q] at h2
      refine .inl ⟨p, _, _, .int d, rfl, rfl, t1, ?_, Go.here G2 h2 (.int d)⟩
      unfold atI at q ⊢
      rw [List.length_map]
      cases q2 : ixN ds.length i with
      | none => rw [q2] at q; cases q
      | some j =>
        rw [q2] at q
        show (ds.map V.int)[j]? = some (V.int d)
        have q' : ds[j]? = some d := q
        rw [List.getElem?_map, q']
        rfl
  · rename_i k i
    cases ty.int
    obtain ⟨p, d, o, rfl, e1, e2, e3, r⟩ := tx.mref G2.base
    rw [e2] at h2
    cases r with
    | lst r =>
      rename_i xs ds
      dsimp only at h2
      cases q : atI ds i with
      | none => rw [q] at h2; exact h2.elim
      | some d =>
        rw [q] at h2
        obtain ⟨v, e4, e5⟩ := atI_rs r q
        exact .inl ⟨p, xs, _, v, rfl, rfl, SqL.of e3, e4, Go.here G2 h2 e5⟩
    | ins c r => exact h2.elim
  · rename_i z i
    cases ty.int
    cases tx.str
    split at h2
    · rename_i hc
      cases q : atI z.cps.toList i with
      | none => rw [q] at h2; exact h2.elim
      | some c =>
        rw [q] at h2
        exact .inr (.inr ⟨z, i, c, rfl, rfl, cap_ok hc, q, Go.here G2 h2 (.str _)⟩)
    · exact h2.elim
  · exact h2.elim
/-! ### lists of expressions -/
/-- the modes fit: a borrowed place takes anything, a kept one no bare name's loan -/
def fit : List Bool → List Kd → Bool
  | _, [] => true
  | true :: ms, _ :: ks => fit ms ks
  | false :: ms, k :: ks => k != .b && k != .s && fit ms ks
  | [], _ :: _ => false
end
end Z

namespace Z
open PySem PySem.Spec PyProof.Rows L2
section
variable {F : Fs} {T : Tb} {N : List Str} {sc : Scope} {ow : Str → Bool} {W : WX} {X : Cx} {p q pa pb pc : Ex} {w0 w w1 w2 : Ws} {ρ ρ1 : En} {s s1 : List D} {σ : L2.St} {H : Hp} {Q : VK} {k1 k2 k3 : Kd} {kk : Kd}
/-! ### slices -/
/-- the reading of a part by its plain expression -/
inductive Part (F : Fs) (g : G) (W : WX) (X : Cx) : Option Expr → Bool → Ex → Prop
  | none : Part F g W X none false (.c .non)
  | some {e : Expr} {p : Ex} {k : Kd} : PE X e (tI F g W k p) → Part F g W X (some e) true p
def tPo (F : Fs) (g : G) (W : WX) : Bool → Kd → Ex → TO
  | false, _, _ => tNoPart
  | true, k, p => tPart (tI F g W k p)
theorem part_po {g : G} {e : Option Expr} {f : Bool} (h : Part F g W X e f p) : ∃ k, PO X e (tPo F g W f k p) ∧ (f = false → p = .c .non) := by
  cases h with
  | none => exact ⟨.k, po_none, fun _ => rfl⟩
  | some h => exact ⟨_, po_some h, fun z => by cases z⟩
theorem part_bind {g : G} {f : Bool} {k : D → En → List D → Out} {kr : Kd} {P : Option Int → Hp → Prop} (hn : f = false → p = .c .non) (G0 : Good g w0 w ρ s σ) (h : Go g W kr w0 w ρ σ ((ev F p false ρ s).bind k) Q)
    (hb : ∀ d ρ s, partD f d = none → k d ρ s = .bad)
    (hp : ∀ w1 d o ρ1 s1, partD f d = some o → Mid g w0 w w1 ρ ρ1 s1 σ w1.H → Go g W kr w0 w1 ρ1 σ (k d ρ1 s1) Q → P o w1.H) : tPo F g W f k1 p σ w.H P := by
  cases f with
  | false =>
    cases hn rfl
    exact hp w .non none ρ s rfl ⟨rfl, G0, Step.refl _, Os.refl _⟩ h
  | true =>
    refine tI_mono (go_bind (kq := k1) G0 h) fun x H1 ⟨w1, d, ρ1, s1, M, px, h1⟩ => ?_
    obtain ⟨eH, G1, S1, O1⟩ := M
    subst eH
    have t := px.tr G1.ext
    cases d with
    | int i =>
      cases t.int
      exact ⟨i, rfl, hp w1 (.int i) (some i) ρ1 s1 rfl ⟨rfl, G1, S1, O1⟩ h1⟩
    | _ => rw [hb _ _ _ rfl] at h1; exact h1.elim
theorem Rs.cut {K : PySem.W.Frag} {cl : Nat → Option Addr} {al : List Addr} {H : Hp} {vs : List V} {ds : List D} {lo hi : Option Int} (r : Rs K cl al H vs ds) : Rs K cl al H (cutV vs lo hi) (cutD ds lo hi) := by
  unfold cutV cutD
  rw [r.length]
  exact (r.drop _).take _
theorem r_sli {a : Expr} {lo hi : Option Expr} {f g : Bool} {pos p2 : Pos} (K : X.K = T.g.K) (ha : PE X a (tI F T.g W k1 pa)) (hl : Part F T.g W X lo f pb) (hh : Part F T.g W X hi g pc) :
    PE X (.Subscript a (.Slice lo hi none p2) pos) (tI F T.g W .k (.sli f g pa pb pc)) := by
  obtain ⟨kl, ql, nl⟩ := part_po hl
  obtain ⟨kh, qh, nh⟩ := part_po hh
  refine PE.imp (pe_slice ((sl_str.or sl_tupA).or sl_list) ha ql qh) fun σ H Q ⟨w0, w, ρ, s, e, G0, h⟩ => ?_
  subst e
  unfold ev at h
  simp only [fin_f] at h
  refine tI_mono (go_bind (kq := k1) G0 h) fun x H1 ⟨w1, dx, ρ1, s1, M, px, h1⟩ => ?_
  obtain ⟨rfl, G1, S1, O1⟩ := M
  refine part_bind nl G1 h1 (fun d ρ s hd => ?_) fun w2 dl lo ρ2 s2 el M2 h2 => ?_
  · rw [hd]
  obtain ⟨_, G2, S2, O2⟩ := M2
  rw [el] at h2
  refine part_bind nh G2 h2 (fun d ρ s hd => ?_) fun w3 dh hi ρ3 s3 eh M3 h3 => ?_
  · rw [hd]
  obtain ⟨_, G3, S3, O3⟩ := M3
  have tx := (((px.tr G1.ext).step S2).step S3)
  rw [eh] at h3
  dsimp only at h3
  cases q : sliD dx lo hi with
  | none => rw [q] at h3; exact h3.elim
  | some d =>
    rw [q] at h3
    unfold sliD at q
    split at q
    · split at q
      · rename_i hc
        cases q
        cases tx.str
        exact .inl (.inl ⟨_, rfl, cap_ok hc, Go.here G3 h3 (.str _)⟩)
      · cases q
    · cases q
      obtain ⟨b, vs, rfl, t1, r, t2⟩ := tx.tup G3.base
      rw [K]
      refine .inl (.inr ⟨b, vs, rfl, t1, fun hh => ?_, fun _ p hp => ?_⟩)
      · have e : ∀ {α : Type} (xs : List α), HT.sIx xs.length 0 lo = 0 ∧ HT.sIx xs.length xs.length hi = xs.length → (xs.drop (HT.sIx xs.length 0 lo)).take (HT.sIx xs.length xs.length hi - HT.sIx xs.length 0 lo) = xs := fun xs h => by
          rw [h.1, h.2]; simp
        have h4 := e _ (show HT.sIx _ 0 lo = 0 ∧ _ by rw [← r.length]; exact hh)
        unfold cutD at h3
        rw [h4] at h3
        exact Go.here G3 h3 (.tup t2 r)
      · exact Go.newK G3 h3 (fun p hp => .tup (SqT.of upd_same) ((step_upF G3.base hp).rs r.cut)) p hp
    · split at q
      · cases q
        obtain ⟨b, vs, rfl, t1, r⟩ := tx.lst G3.base
        rw [K]
        exact .inr ⟨b, vs, rfl, SqL.of t1, fun p hp => Go.newK G3 h3 (fun p hp => .lst upd_same ((step_upF G3.base hp).rs r.cut)) p hp⟩
      · cases q
    · cases q
/-! ### join -/
theorem strs_ok {K : PySem.W.Frag} {cl : Nat → Option Addr} {al : List Addr} {Hf : Hp} : ∀ {xs : List D} {vs : List V} {ns : List Str}, Rs K cl al Hf vs xs → strsOf xs = some ns → vs = ns.map V.str
  | [], _, _, .nil, h => by cases h; rfl
  | .str i :: r, _, _, .cons (.str _) t, h => by
    unfold strsOf at h
    cases q : strsOf r with
    | none => rw [q] at h; cases h
    | some ms => rw [q] at h; cases h; rw [strs_ok t q]; rfl
theorem r_joi {x : Str} {e : Expr} {j : Nat} {cp ap pos : Pos} (K : X.K = T.g.K) (hs : starEach [e] X.env = [(false, eval e X.env)]) (hline : (ap.endLine == pos.line) = true) (he : PE X e (tI F T.g W k2 pb)) :
    PE X (.Call (.Attribute (.Constant (.str x) j cp) "join" ap) [e] [] pos) (tI F T.g W .k (.joi x pb)) := by
  refine PE.imp (pe_join pe_str he hs rfl hline) fun σ H Q ⟨w0, w, ρ, s, e, G0, h⟩ => ?_
  subst e
  unfold ev at h
  simp only [fin_f] at h
  refine ⟨⟨_, rfl⟩, ?_⟩
  refine tI_mono (go_bind (kq := k2) G0 h) fun y H2 ⟨w2, dy, ρ2, s2, M, py, h2⟩ => ?_
  obtain ⟨rfl, G2, S2, O2⟩ := M
  have ty := py.tr G2.ext
  cases q : joiD x dy with
  | none => rw [q] at h2; exact h2.elim
  | some d =>
    rw [q] at h2
    unfold joiD at q
    split at q
    · split at q
      · rename_i ys e1
        split at q
        · rename_i hc
          cases q
          obtain ⟨p, vs, rfl, t1, r⟩ := ty.lst G2.base
          cases strs_ok r e1
          rw [K]
          exact ⟨_, p, ys, rfl, rfl, .inl (SqL.of t1), by omega, Go.here G2 h2 (.str _)⟩
        · cases q
      · cases q
    · cases q
end
end Z

namespace Z
open PySem PySem.Spec PyProof.Rows L2
section
variable {F : Fs} {T : Tb} {N : List Str} {sc : Scope} {ow : Str → Bool} {W : WX} {X : Cx} {p q pa pb pc : Ex} {w0 w w1 w2 w' : Ws} {ρ ρ1 : En} {s s1 s' : List D} {σ : L2.St} {H : Hp} {Q : VK} {k1 k2 k3 : Kd} {kk : Kd} {ms : List Bool} {ps : List Ex}
def notStar : Expr → Bool
  | .Starred _ _ => false
  | _ => true
theorem starEach_of {e : Expr} (h : notStar e = true) (es : List Expr) (env : PySem.Env) : starEach (e :: es) env = (false, eval e env) :: starEach es env := by
  cases e <;> first | rfl | cases h
theorem noStars : ∀ {es : List Expr}, es.all notStar = true → ∀ (pos : Pos) (env : PySem.Env), (backTo pos (starEach es env)).any (·.1) = false
  | [], _, pos, env => rfl
  | e :: es, h, pos, env => by
    rw [List.all_cons] at h
    obtain ⟨h1, h2⟩ := Bool.and_eq_true_iff.mp h
    rw [starEach_of h1]
    have ih := noStars h2 pos env
    show List.any ((false, _) :: backTo pos (starEach es env)) (·.1) = false
    rw [List.any_cons, ih]
    rfl
theorem r_nil : PA X [] (tA F T.g W ms []) := PA.imp pa_nil fun σ H Q ⟨w0, w, ρ, s, e, G0, h⟩ => by
  subst e
  exact h [] w G0 (Step.refl _) (Os.refl _) .nil
theorem goL_cons {Q : List V → Hp → Prop} {b : Bool} {kq : Kd} (G0 : Good T.g w0 w ρ s σ) (h : GoL T.g W (b :: ms) w0 w ρ σ (evs F (p :: ps) ρ s) Q) (hk : ∀ w' w'' v d, Step w0 w'' → post T.g kq w0 w' w'' v d → if b then Tr T.g w'' v d else Rw T.g w'' v d) :
    tCons (tI F T.g W kq p) (tA F T.g W ms ps) σ w.H Q := by
  have e0 : evs F (p :: ps) ρ s = (ev F p false ρ s).bindL fun d ρ s => (evs F ps ρ s).bindL fun ds ρ s => .ok (d :: ds) ρ s := rfl
  rw [e0] at h
  refine ⟨w0, w, ρ, s, rfl, G0, ?_⟩
  cases q : ev F p false ρ s with
  | bad => rw [q] at h; exact h
  | exc c fs ρ' s' => rw [q] at h; exact h
  | ok d ρ1 s1 =>
    rw [q] at h
    intro v w1 G1 S1 O1 hp
    refine ⟨w0, w1, ρ1, s1, rfl, G1, ?_⟩
    have h' : GoL T.g W (b :: ms) w0 w ρ σ ((evs F ps ρ1 s1).bindL fun ds ρ s => .ok (d :: ds) ρ s) Q := h
    cases q2 : evs F ps ρ1 s1 with
    | bad => rw [q2] at h'; exact h'
    | exc c fs ρ' s' => rw [q2] at h'; exact h'
    | ok ds ρ2 s2 =>
      rw [q2] at h'
      intro vs w2 G2 S2 O2 hps
      refine h' (v :: vs) w2 G2 (S1.trans S2) (O1.trans O2) ?_
      have hh := hk _ _ v d G1.ext hp
      cases b with
      | true => exact .b (Tr.step hh S2) hps
      | false => exact .k (S2.r hh) hps
theorem r_consK {e : Expr} {es : List Expr} (hn : notStar e = true) (ha : PE X e (tI F T.g W .k p)) (hr : PA X es (tA F T.g W ms ps)) : PA X (e :: es) (tA F T.g W (false :: ms) (p :: ps)) :=
  PA.imp (pa_cons ha hr (starEach_of hn es X.env)) fun σ H Q ⟨w0, w, ρ, s, e, G0, h⟩ => by
    subst e
    exact goL_cons G0 h fun _ _ _ _ _ h => h
theorem r_consB {e : Expr} {es : List Expr} (hn : notStar e = true) (ha : PE X e (tI F T.g W k1 p)) (hr : PA X es (tA F T.g W ms ps)) : PA X (e :: es) (tA F T.g W (true :: ms) (p :: ps)) :=
  PA.imp (pa_cons ha hr (starEach_of hn es X.env)) fun σ H Q ⟨w0, w, ρ, s, e, G0, h⟩ => by
    subst e
    exact goL_cons G0 h fun _ _ _ _ E h => h.tr E
theorem Ps.all {g : G} {vs : List V} {ds : List D} (h : Ps g w ms vs ds) (hm : ms.all (· == false) = true) : Rws g w vs ds := by
  induction h with
  | nil => exact .nil
  | k r _ ih =>
    rw [List.all_cons] at hm
    exact .cons r (ih (Bool.and_eq_true_iff.mp hm).2)
  | b r _ ih => rw [List.all_cons] at hm; exact absurd (Bool.and_eq_true_iff.mp hm).1 (by decide)
theorem r_tup {es : List Expr} {x1 : Nat} {pos : Pos} (hm : ms.all (· == false) = true) (h : PA X es (tA F T.g W ms ps)) : PE X (.Tuple es x1 pos) (tI F T.g W .k (.tup ps)) := PE.imp (pe_tup h) fun σ H Q ⟨w0, w, ρ, s, e, G0, h⟩ => by
  subst e
  unfold ev at h
  simp only [fin_f] at h
  show tA F T.g W ms ps σ w.H _
  obtain ⟨w0', w', ρ', s', e', G', z⟩ := goL_bind (ms := ms) G0 h
  refine ⟨w0', w', ρ', s', e', G', ?_⟩
  cases q : evs F ps ρ' s' with
  | bad => rw [q] at z; exact z
  | exc c fs ρ s => rw [q] at z; exact z
  | ok ds ρ1 s1 =>
    rw [q] at z
    intro vs w1 G1 S1 O1 hp
    obtain ⟨w2, ds2, ρ2, s2, ⟨e2, G2, S2, O2⟩, hp2, z⟩ := z vs w1 G1 S1 O1 hp
    rw [← e2]
    split at z
    · rename_i hc
      have r := hp2.all hm
      exact ⟨by rw [r.length]; exact cap_ok hc, Go.newK G2 z fun p hp => .tup (SqT.of upd_same) ((step_upF G2.base hp).rs r)⟩
    · exact z.elim
theorem r_lst {es : List Expr} {pos : Pos} (hm : ms.all (· == false) = true) (h : PA X es (tA F T.g W ms ps)) : PE X (.List es pos) (tI F T.g W .f (.lst ps)) := PE.imp (pe_lst h) fun σ H Q ⟨w0, w, ρ, s, e, G0, h⟩ => by
  subst e
  unfold ev at h
  simp only [fin_f] at h
  show tA F T.g W ms ps σ w.H _
  obtain ⟨w0', w', ρ', s', e', G', z⟩ := goL_bind (ms := ms) G0 h
  refine ⟨w0', w', ρ', s', e', G', ?_⟩
  cases q : evs F ps ρ' s' with
  | bad => rw [q] at z; exact z
  | exc c fs ρ s => rw [q] at z; exact z
  | ok ds ρ1 s1 =>
    rw [q] at z
    intro vs w1 G1 S1 O1 hp
    obtain ⟨w2, ds2, ρ2, s2, ⟨e2, G2, S2, O2⟩, hp2, z⟩ := z vs w1 G1 S1 O1 hp
    rw [← e2]
    split at z
    · rename_i hc
      have r := hp2.all hm
      exact ⟨by rw [r.length]; exact cap_ok hc, Go.newF G2 z (.lst r)⟩
    · exact z.elim
/-! ### calls of one's own defs -/
def Fr (w w' : Ws) : Prop := ∀ a o, w.Hf a = none → w.H a = some o → w'.Hf a = none
def GoC (g : G) (w : Ws) (o : Ou) (Q : VK) (E : XK) : Prop := match o with
  | .ok d s' => ∀ v w', Base g w' s' → Step w w' → Fr w w' → Rw g w' v d → Q v w'.H
  | .exc c fs s' => ∀ C d w', Base g w' s' → Step w w' → Fr w w' → g.cl c = some C → XD g w' d fs → E (.ref C) d w'.H
  | .bad => False
/-- what a def promises: the plain function fn of n arguments, borrowed where ms says so -/
def spD (g : G) (ms : List Bool) (n : Nat) (fn : Fn) : Sp := fun vs H Q E => vs.length = n ∧ ∃ w s ds, w.H = H ∧ Base g w s ∧ Ps g w ms vs ds ∧ GoC g w (fn ds s) Q E
theorem Good.after {g : G} (G0 : Good g w0 w ρ s σ) (b : Base g w' s') (S : Step w w') (fr : Fr w w') : Good g w0 w' ρ s' σ := by
  refine ⟨b, G0.ext.trans S, fun a o e1 e2 => ?_, G0.len, fun i d e => ?_, fun i d e => ?_, G0.br, G0.dis, fun i c fs e => S.xs (G0.xc i c fs e)⟩
  · have z := G0.new a o e1 e2
    by_cases ha : a ∈ w0.al
    · obtain ⟨u, hu⟩ := G0.base.alive (G0.ext.mem ha)
      exact fr a u z hu
    · exact fr a o z (G0.ext.hh a o e2 ha)
  · obtain ⟨v, e1, r⟩ := G0.im i d e
    exact ⟨v, e1, S.r r⟩
  · obtain ⟨a, o, e1, e2, e3, e4, e5, e6⟩ := G0.ow i d e
    refine ⟨a, o, e1, S.hh a o e2 e5, S.ro e3, fr a o e4 e2, fun hm => ?_, e6⟩
    rw [S.an a hm e5] at e2; cases e2
/-- a call, by values -/
def rD (g : G) (ms : List Bool) (n : Nat) (fn : Fn) (W : WX) (σ : L2.St) (vs : List V) (H : Hp) (Q : VK) : Prop := vs.length = n ∧ ∃ w s ds, w.H = H ∧ Base g w s ∧ Ps g w ms vs ds ∧ GoC g w (fn ds s) Q (fun cls d H => W cls d σ H)
/-- what is called and how: the name, how many arguments by place, the keywords' names, where it may borrow -/
structure CE where
  x : Str
  n : Nat
  ks : List Str
  ms : List Bool
def CE.ck (c : CE) : CK := (c.x, c.n, c.ks)
theorem tA_mono {P P' : List V → Hp → Prop} (h : tA F T.g W ms ps σ H P) (i : ∀ v H', P v H' → P' v H') : tA F T.g W ms ps σ H P' := by
  obtain ⟨w0, w, ρ, s, e, G0, z⟩ := h
  refine ⟨w0, w, ρ, s, e, G0, ?_⟩
  cases q : evs F ps ρ s with
  | ok d ρ' s' => rw [q] at z; exact fun v w' a b c e => i _ _ (z v w' a b c e)
  | exc c fs ρ' s' => rw [q] at z; exact z
  | bad => rw [q] at z; exact z
def CallGood (T : Tb) (c : CE) (fn : Fn) : Prop := ∀ {F : Fs} {N : List Str} {sc : Scope} {ow : Str → Bool} {W : WX} {X : Cx}, Ok T N sc ow W X → ∀ {es : List Expr} {kws : List Keyword} {ps qs : List Ex} {p pos : Pos}, es.length = c.n → es.all notStar = true → kws.map (·.arg) = c.ks.map some → qs.length = kws.length → Gl X c.x → (c.x == ("__debug__" : Str)) = false →
  PA X es (tA F T.g W c.ms ps) → PK X kws (tA F T.g W (c.ms.drop c.n) qs) →
  PE X (.Call (.Name c.x p) es kws pos) (fun σ H Q => tA F T.g W c.ms ps σ H fun vs H1 => tA F T.g W (c.ms.drop c.n) qs σ H1 fun zs H2 => rD T.g c.ms (c.n + c.ks.length) fn W σ (vs ++ zs) H2 Q)
theorem evs_len : ∀ {ps : List Ex} {ρ ρ' : En} {s s' : List D} {ds : List D}, evs F ps ρ s = .ok ds ρ' s' → ds.length = ps.length
  | [], ρ, ρ', s, s', ds, h => by cases h; rfl
  | p :: ps, ρ, ρ', s, s', ds, h => by
    have e0 : evs F (p :: ps) ρ s = (ev F p false ρ s).bindL fun d ρ s => (evs F ps ρ s).bindL fun ds ρ s => .ok (d :: ds) ρ s := rfl
    rw [e0] at h
    cases q : ev F p false ρ s with
    | bad => rw [q] at h; cases h
    | exc c fs ρ' s' => rw [q] at h; cases h
    | ok d ρ1 s1 =>
      rw [q] at h
      have h' : ((evs F ps ρ1 s1).bindL fun ds ρ s => OutL.ok (d :: ds) ρ s) = .ok ds ρ' s' := h
      cases q2 : evs F ps ρ1 s1 with
      | bad => rw [q2] at h'; cases h'
      | exc c fs ρ' s' => rw [q2] at h'; cases h'
      | ok ds2 ρ2 s2 =>
        rw [q2] at h'
        cases h'
        simp [evs_len q2]
theorem evs_app : ∀ {ps qs : List Ex} {ρ : En} {s : List D}, evs F (ps ++ qs) ρ s = (evs F ps ρ s).bindL fun ds ρ s => (evs F qs ρ s).bindL fun es ρ s => .ok (ds ++ es) ρ s
  | [], qs, ρ, s => by
    show evs F qs ρ s = (evs F qs ρ s).bindL fun es ρ s => .ok es ρ s
    cases evs F qs ρ s <;> rfl
  | p :: ps, qs, ρ, s => by
    have e0 : ∀ (ps : List Ex) ρ s, evs F (p :: ps) ρ s = (ev F p false ρ s).bindL fun d ρ s => (evs F ps ρ s).bindL fun ds ρ s => .ok (d :: ds) ρ s := fun _ _ _ => rfl
    rw [List.cons_append, e0, e0]
    cases ev F p false ρ s with
    | bad => rfl
    | exc c fs ρ s => rfl
    | ok d ρ1 s1 =>
      show (evs F (ps ++ qs) ρ1 s1).bindL _ = ((evs F ps ρ1 s1).bindL _).bindL _
      rw [evs_app]
      cases evs F ps ρ1 s1 with
      | bad => rfl
      | exc c fs ρ s => rfl
      | ok ds ρ2 s2 =>
        show ((evs F qs ρ2 s2).bindL _).bindL _ = (evs F qs ρ2 s2).bindL _
        cases evs F qs ρ2 s2 <;> rfl
theorem Ps.join {g : G} {vs us : List V} {ds es : List D} (h : Ps g w ms vs ds) : ∀ {n : Nat}, vs.length = n → Ps g w (ms.drop n) us es → Ps g w ms (vs ++ us) (ds ++ es) := by
  induction h with
  | nil => intro n hn h; subst hn; exact h
  | k r _ ih =>
    intro n hn h
    cases n with
    | zero => cases hn
    | succ n => exact .k r (ih (by simpa using hn) h)
  | b r _ ih =>
    intro n hn h
    cases n with
    | zero => cases hn
    | succ n => exact .b r (ih (by simpa using hn) h)
theorem r_call {f : CK} {fn : Fn} {c : CE} {es : List Expr} {kws : List Keyword} {qs : List Ex} {pp pos : Pos} (hf : F f = some fn) (hl : ps.length = c.n) (hq : qs.length = c.ks.length) (h0 : PE X (.Call (.Name c.x pp) es kws pos) (fun σ H Q => tA F T.g W c.ms ps σ H fun vs H1 => tA F T.g W (c.ms.drop c.n) qs σ H1 fun zs H2 => rD T.g c.ms (c.n + c.ks.length) fn W σ (vs ++ zs) H2 Q)) :
    PE X (.Call (.Name c.x pp) es kws pos) (tI F T.g W .k (.call f c.ms (ps ++ qs))) := PE.imp h0 fun σ H Q ⟨w0, w, ρ, s, e, G0, h⟩ => by
  subst e
  unfold ev at h
  simp only [fin_f] at h
  rw [evs_app] at h
  unfold callO at h
  refine ⟨w0, w, ρ, s, rfl, G0, ?_⟩
  cases q : evs F ps ρ s with
  | bad => rw [q] at h; exact h
  | exc c fs ρ s => rw [q] at h; exact h
  | ok ds ρ1 s1 =>
    rw [q] at h
    intro vs w1 G1 S1 O1 hp
    refine ⟨w0, w1, ρ1, s1, rfl, G1, ?_⟩
    have h' : Go T.g W .k w0 w ρ σ (((evs F qs ρ1 s1).bindL fun es ρ s => OutL.ok (ds ++ es) ρ s).bind fun ds ρ s => match F f with
      | some fn => match fn ds s with
        | .ok d s' => .ok d ρ s'
        | .exc c fs s' => .exc c fs ρ s'
        | .bad => .bad
      | none => .bad) Q := h
    cases q2 : evs F qs ρ1 s1 with
    | bad => rw [q2] at h'; exact h'
    | exc c fs ρ s => rw [q2] at h'; exact h'
    | ok es ρ2 s2 =>
      rw [q2] at h'
      intro zs w2 G2 S2 O2 hp2
      have hvl : vs.length = c.n := by rw [hp.length, evs_len q, hl]
      refine ⟨by rw [List.length_append, hvl, hp2.length, evs_len q2, hq], w2, s2, ds ++ es, rfl, G2.base, (hp.step S2).join hvl hp2, ?_⟩
      have h2 : Go T.g W .k w0 w ρ σ (match F f with
        | some fn => match fn (ds ++ es) s2 with
          | .ok d s' => .ok d ρ2 s'
          | .exc c fs s' => .exc c fs ρ2 s'
          | .bad => .bad
        | none => .bad) Q := h'
      rw [hf] at h2
      dsimp only at h2
      cases q3 : fn (ds ++ es) s2 with
      | bad => rw [q3] at h2; exact h2
      | ok d s3 =>
        rw [q3] at h2
        exact fun v w3 B3 S3 F3 r3 => h2 v w3 (G2.after B3 S3 F3) ((S1.trans S2).trans S3) (O1.trans O2) r3
      | exc c fs s3 =>
        rw [q3] at h2
        exact fun C d w3 B3 S3 F3 hC hx => h2 C d w3 (G2.after B3 S3 F3) hC hx
theorem tA_nil {P : List V → Hp → Prop} (h : tA F T.g W ms [] σ H P) : P [] H := by
  obtain ⟨w0, w, ρ, s, e, G0, z⟩ := h
  subst e
  exact z [] w G0 (Step.refl _) (Os.refl _) .nil
theorem Ps.app {g : G} {vs us : List V} {ds es : List D} (h : Ps g w ms vs ds) (hl : vs.length = ms.length) (r : Rws g w us es) : Ps g w (ms ++ List.replicate us.length false) (vs ++ us) (ds ++ es) := by
  induction h with
  | nil =>
    rename_i ms
    cases ms with
    | cons _ _ => simp at hl
    | nil =>
      have key : ∀ {us : List V} {es : List D}, Rws g w us es → Ps g w (List.replicate us.length false) us es := by
        intro us es r
        induction us generalizing es with
        | nil => cases r; exact .nil
        | cons u us ih =>
          cases r with
          | cons a b => exact .k a (ih b)
      exact key r
  | k a _ ih => exact .k a (ih (by simpa using hl))
  | b a _ ih => exact .b a (ih (by simpa using hl))
/-- a def by its promise, called by place, its defaults dvs behind -/
theorem callGood {x : Str} {n : Nat} {ms : List Bool} {f : Addr} {fd : FuncData} {psn : List Str} {k : Nat} {ds : List Value} {dvs : List V} {dds : List D} {fn : Fn}
    (hk : k ≤ T.k) (hm : T.mg x = some (.ref f)) (kp : PySem.W.keepIn T.g.K (.ref f) = true) (hb : Binds T.g.K fd psn ds) (hd : Vals dvs ds)
    (rd : ∀ w : Ws, Rws T.g w dvs dds) (hn : n + dvs.length = psn.length) (hms : ms.length = n) (h0 : n ≠ 0)
    (FO : FnOk T.P T.w T.g.K T.mg T.base (L2.CX T.P T.w) k f fd psn (spD T.g (ms ++ List.replicate dvs.length false) psn.length fn)) : CallGood T ⟨x, n, [], ms⟩ (fun as s => fn (as ++ dds) s) := by
  intro F N sc ow W X ok es kws ps qs p pos hl hst hkw hqs hg hdb ha hpk
  cases kws with
  | cons _ _ => cases hkw
  | nil =>
  cases qs with
  | cons _ _ => cases hqs
  | nil =>
  cases es with
  | nil => exact absurd hl.symm h0
  | cons e es =>
    rw [List.all_cons] at hst
    obtain ⟨h1, h2⟩ := Bool.and_eq_true_iff.mp hst
    obtain ⟨eP, ew, eK, em, eb, ec, eN, _, _, room, _, tk, _⟩ := ok
    have FO2 : FnOk X.prog X.w X.K X.mg X.base (L2.CX X.prog X.w) k f fd psn (spD T.g (ms ++ List.replicate dvs.length false) psn.length fn) := by rw [eP, ew, eK, em, eb]; exact FO
    refine PE.imp (pe_callSD (E := fun σ cls d H => W cls d σ H) (ds := ds) (dvs := dvs) FO2 (room.mono hk) hg (by rw [em]; exact hm) (by rw [eK]; exact kp) (by rw [eK]; exact hb) hd (fun σ => passAt tk σ) ha hdb (starEach_of h1 es X.env) (noStars h2 _ _)) fun σ H Q h => ?_
    refine tA_mono h fun vs H1 h1 => ?_
    obtain ⟨hv, w, s, ds', e1, B, hp, go⟩ := tA_nil h1
    rw [List.append_nil] at hv hp
    exact ⟨by rw [List.length_append, hv]; exact hn, w, s, ds' ++ dds, e1, B, hp.app (by rw [hv, hms]; rfl) (rd w), go⟩
/-! ### calls with keywords -/
theorem run_fnNS {CX : CXT} {k n : Nat} {f : Addr} {fd : FuncData} {ps ks : List Str} {sp : Sp} {E : L2.St → XK} {g : List Value → List Value → List Value} {gV : List V → List V → List V} {pins : List (Addr × Obj)} {s : Shared} {us ws : List Value} {vs zs : List V} (F : FnOk X.prog X.w X.K X.mg X.base CX k f fd ps sp) (hr : Room k X.A) (hb : KBn X.K fd ps n ks g gV) (hx : PassesAt CX X σ (E σ))
    (I : Inv X pins σ H s) (r : Vals vs us) (rz : Vals zs ws) (l1 : vs.length = n) (l2 : zs.length = ks.length) (h : sp (gV vs zs) H Q (E σ)) : wpAny (model X.prog X.w) X.A (call (.ref f) us (ks.zip ws)) (EP X pins σ Q) X.xe s := by
  have r2 := hb.rel r rz
  refine wpAny_call (codeAny_mono (F.run X.A X.stack s H ⟨us, ks.zip ws⟩ (g us ws) (gV vs zs) Q (E σ) hr I.env0 (hb.to s us ws I.kIn (r.length.symm.trans l1) (rz.length.symm.trans l2)) r2 h) fun r s' hq => ?_)
  cases r with
  | error e => exact hx pins H s e s' I hq
  | ok fl =>
    cases fl with
    | ret u => exact I.after hq
    | next => exact False.elim hq
    | brk => exact False.elim hq
    | cont => exact False.elim hq
theorem pe_callNS {CX : CXT} {k n : Nat} {f : Addr} {fd : FuncData} {ps ks : List Str} {sp : Sp} {E : L2.St → XK} {g : List Value → List Value → List Value} {gV : List V → List V → List V} {x : Str} {p pos : Pos} {e : Expr} {es : List Expr} {kws : List Keyword} {t tk : TA} (F : FnOk X.prog X.w X.K X.mg X.base CX k f fd ps sp) (hr : Room k X.A) (hg : Gl X x) (hm : X.mg x = some (.ref f)) (hk : PySem.W.keepIn X.K (.ref f) = true) (hb : KBn X.K fd ps n ks g gV) (hx : ∀ σ, PassesAt CX X σ (E σ))
    (ha : PA X (e :: es) t) (hkw : PK X kws tk) (hall : (backToKw pos (keywordEach kws X.env)).all (·.1.isSome) = true) (hks : (backToKw pos (keywordEach kws X.env)).filterMap (·.1) = ks)
    (hdb : (x == ("__debug__" : Str)) = false) (he : starEach (e :: es) X.env = (false, eval e X.env) :: starEach es X.env)
    (hpl : ((backTo pos (starEach (e :: es) X.env)).any (·.1) || (backToKw pos (keywordEach kws X.env)).any (·.1.isNone)) = false) :
    PE X (.Call (.Name x p) (e :: es) kws pos) (fun σ H Q => t σ H fun vs H1 => tk σ H1 fun zs H2 => vs.length = n ∧ zs.length = ks.length ∧ sp (gV vs zs) H2 Q (E σ)) := by
  refine ⟨fun pins s σ H Q I h => ?_⟩
  refine wpAny_Call_Name_kw (ld_glob I hg hm ?_ hdb)
  refine PySem.W.callWith_KW (h₀ := X.base) I.ok.mod.kin hk hall (thn (ha.run pos pins s σ H _ I h) fun us s1 ⟨vs, H1, I1, r, q⟩ => ?_) hpl he
  refine thn (hkw.run pos pins s1 σ H1 _ I1 q) fun ws s2 ⟨zs, H2, I2, rz, l1, l2, q2⟩ => ⟨I2.kIn, ?_⟩
  rw [hks]
  exact run_fnNS F hr hb (hx σ) I2 r rz l1 l2 q2
theorem kwE_map : ∀ {kws : List Keyword} {ks : List Str} (pos : Pos) (env : PySem.Env), kws.map (·.arg) = ks.map some → (backToKw pos (keywordEach kws env)).all (·.1.isSome) = true ∧ (backToKw pos (keywordEach kws env)).filterMap (·.1) = ks ∧ (backToKw pos (keywordEach kws env)).any (·.1.isNone) = false
  | [], [], pos, env, _ => ⟨rfl, rfl, rfl⟩
  | [], _ :: _, _, _, h => by cases h
  | _ :: _, [], _, _, h => by cases h
  | ⟨nm, e, kp⟩ :: kws, k :: ks, pos, env, h => by
    simp only [List.map_cons, List.cons.injEq] at h
    obtain ⟨h1, h2⟩ := h
    subst h1
    obtain ⟨a, b, c⟩ := kwE_map (kws := kws) pos env h2
    have e0 : ∃ z, backToKw pos (keywordEach (⟨some k, e, kp⟩ :: kws) env) = (some k, z) :: backToKw pos (keywordEach kws env) := ⟨_, rfl⟩
    obtain ⟨z, e0⟩ := e0
    rw [e0]
    exact ⟨by rw [List.all_cons, a]; rfl, by rw [List.filterMap_cons, b], by rw [List.any_cons, c]; rfl⟩
theorem starAny {e : Expr} {es : List Expr} (h : (e :: es).all notStar = true) (pos : Pos) (env : PySem.Env) : (backTo pos (starEach (e :: es) env)).any (·.1) = false := by
  rw [List.all_cons] at h
  obtain ⟨h1, h2⟩ := Bool.and_eq_true_iff.mp h
  rw [starEach_of h1]
  show List.any ((false, _) :: backTo pos (starEach es env)) (·.1) = false
  rw [List.any_cons, noStars h2]
  rfl
/-- a def called with keywords: gV puts the values (and the defaults) in the parameters' order, gD the data -/
theorem callGoodK {x : Str} {n : Nat} {ks : List Str} {ms ms' : List Bool} {f : Addr} {fd : FuncData} {psn : List Str} {k : Nat} {fn : Fn} {gs : List Value → List Value → List Value} {gV : List V → List V → List V} {gD : List D → List D}
    (hk : k ≤ T.k) (hm : T.mg x = some (.ref f)) (kp : PySem.W.keepIn T.g.K (.ref f) = true) (hb : KBn T.g.K fd psn n ks gs gV) (h0 : n ≠ 0)
    (hV : ∀ (w : Ws) (vs zs : List V) (ds : List D), vs.length = n → zs.length = ks.length → Ps T.g w ms (vs ++ zs) ds → (gV vs zs).length = psn.length ∧ Ps T.g w ms' (gV vs zs) (gD ds))
    (FO : FnOk T.P T.w T.g.K T.mg T.base (L2.CX T.P T.w) k f fd psn (spD T.g ms' psn.length fn)) : CallGood T ⟨x, n, ks, ms⟩ (fun as s => fn (gD as) s) := by
  intro F N sc ow W X ok es kws ps qs p pos hl hst hkw hqs hg hdb ha hpk
  cases es with
  | nil => exact absurd hl.symm h0
  | cons e es =>
    have hst' := hst
    rw [List.all_cons] at hst
    obtain ⟨h1, h2⟩ := Bool.and_eq_true_iff.mp hst
    obtain ⟨eP, ew, eK, em, eb, ec, eN, _, _, room, _, tk, _⟩ := ok
    have FO2 : FnOk X.prog X.w X.K X.mg X.base (L2.CX X.prog X.w) k f fd psn (spD T.g ms' psn.length fn) := by rw [eP, ew, eK, em, eb]; exact FO
    obtain ⟨b1, b2, b3⟩ := kwE_map pos X.env hkw
    refine PE.imp (pe_callNS (E := fun σ cls d H => W cls d σ H) FO2 (room.mono hk) hg (by rw [em]; exact hm) (by rw [eK]; exact kp) (by rw [eK]; exact hb) (fun σ => passAt tk σ) ha hpk b1 b2 hdb (starEach_of h1 es X.env) (by rw [starAny hst', b3]; rfl)) fun σ H Q h => ?_
    -- the lengths of both lists
    obtain ⟨w0, w, ρ, s, e0, G0, z⟩ := h
    refine ⟨w0, w, ρ, s, e0, G0, ?_⟩
    cases q : evs F ps ρ s with
    | bad => rw [q] at z; exact z
    | exc c fs ρ' s' => rw [q] at z; exact z
    | ok ds ρ' s' =>
      rw [q] at z
      intro vs w1 G1 S1 O1 hp
      obtain ⟨w0', w', ρ2, s2, e2, G2, z2⟩ := z vs w1 G1 S1 O1 hp
      refine ⟨w0', w', ρ2, s2, e2, G2, ?_⟩
      cases q2 : evs F qs ρ2 s2 with
      | bad => rw [q2] at z2; exact z2
      | exc c fs ρ' s' => rw [q2] at z2; exact z2
      | ok es ρ3 s3 =>
        rw [q2] at z2
        intro zs w3 G3 S3 O3 hp3
        obtain ⟨hv, w4, s4, ds', e4, B, hp4, go⟩ := z2 zs w3 G3 S3 O3 hp3
        have lz : zs.length = ks.length := by
          rw [hp3.length, evs_len q2, hqs]
          have := congrArg List.length hkw
          simpa using this
        have lv : vs.length = n := by
          rw [List.length_append, lz] at hv
          have hv' : vs.length + ks.length = n + ks.length := hv
          omega
        obtain ⟨l1, l2⟩ := hV w4 vs zs ds' lv lz hp4
        exact ⟨lv, lz, l1, w4, s4, gD ds', e4, B, l2, go⟩
end
end Z

namespace Z
open PySem PySem.Spec PyProof.Rows L2
/-! sum of a tuple of ints -/
section
variable {prog : Program} {w : World} {A : Around} {E : Value → Shared → Prop} {s : Shared} {l : Addr} {its : List Value} {ns : List Int} {Q : Value → Shared → Prop}
theorem sumT_raw (hh : A.handled = none) (hl : s.heap.IsTuple l its.toArray) (hi : IntsAre its ns)
    (h : ∀ h' tk t', (∀ b o, s.heap.get? b = some o → h'.get? b = some o) → Q (.int ns.sum t') { s with heap := h', toks := tk }) : wpAny (model prog w) A (call (.builtin "sum") [.ref l]) Q E s := by
  obtain ⟨xs, e⟩ := hi.allInts.items
  have hn : numsOf (intItems xs).toList = ns := by rw [← e]; exact hi.numsOf
  rw [nums_intItems] at hn
  rw [e] at hl
  have hlt : l < s.heap.objs.size := by obtain ⟨_, e, _⟩ := hl; exact Heap.lt_size e
  refine call_sum_walkG (wpAny_pyIter_tuple hl ?_)
  refine ⟨_, _, _, _, _, _, numAt xs, rfl, Walks.tuple (A := A.in1) hh _ l (Nat.ne_of_lt hlt) (intItems xs), ⟨⟨_, Heap.get?_push_size _ rfl, rfl, rfl⟩, hl.push _⟩, (fun b hb => ?_), (fun _ _ => intItems_at), fun h' tk t' hk => ?_⟩
  · show b < (s.heap.push _).objs.size
    rw [Heap.size_push]
    rcases List.mem_cons.mp hb with rfl | hb
    · exact Nat.lt_succ_self _
    · rcases List.mem_cons.mp hb with rfl | hb
      · exact Nat.lt_succ_of_lt hlt
      · cases hb
  · have := h h' tk t' fun b o e => by
      refine hk b o (fun hm => ?_) (Heap.get?_push_of_some _ e)
      rcases List.mem_cons.mp hm with e1 | hm
      · exact absurd (e1 ▸ Heap.lt_size e) (Nat.lt_irrefl _)
      · cases hm
    rw [preSum_eq, List.take_of_length_le (by simp [intItems]), hn]
    exact this
end
section
variable {X : Cx}
def rSumT (K : PySem.W.Frag) : List V → Hp → VK → Prop := fun vs H Q => ∃ (a : Addr) (ns : List Int), vs = [V.ref a] ∧ SqT K H a (ns.map V.int) ∧ Q (.int ns.sum) H
theorem cr_sumT (hc : X.calm = true) : CallR X (.builtin "sum") (rSumT X.K) := by
  intro pins s σ H vs us Q I r h
  obtain ⟨a, ns, rfl, hs, q⟩ := h
  obtain ⟨its, rv, hl, _⟩ := I.tuple hs
  rw [Vals.ref1 r]
  exact sumT_raw (I.ok.hd hc) (show s.heap.IsTuple a its.toArray from hl) rv.ints fun h' tk t' hk => ⟨.int _, H, I.kept hk, ⟨_, rfl⟩, q⟩
end
section
variable {F : Fs} {T : Tb} {N : List Str} {sc : Scope} {ow : Str → Bool} {W : WX} {X : Cx} {p q pa pb pc : Ex} {w0 w w1 w2 w' : Ws} {ρ ρ1 : En} {s s1 s' : List D} {σ : L2.St} {H : Hp} {Q : VK} {k1 k2 k3 : Kd} {kk : Kd} {ms : List Bool} {ps : List Ex}
inductive Trs (g : G) (w : Ws) : List V → List D → Prop
  | nil : Trs g w [] []
  | cons {v : V} {vs : List V} {d : D} {ds : List D} : Tr g w v d → Trs g w vs ds → Trs g w (v :: vs) (d :: ds)
theorem Ps.trs {g : G} {vs : List V} {ds : List D} (h : Ps g w ms vs ds) : Trs g w vs ds := by
  induction h with
  | nil => exact .nil
  | k r _ ih => exact .cons (.inl r) ih
  | b r _ ih => exact .cons r ih
theorem Trs.one {g : G} {vs : List V} {d : D} (h : Trs g w vs [d]) : ∃ v, vs = [v] ∧ Tr g w v d := by
  cases h with
  | cons a b => cases b; exact ⟨_, rfl, a⟩
theorem Trs.two {g : G} {vs : List V} {d e : D} (h : Trs g w vs [d, e]) : ∃ v u, vs = [v, u] ∧ Tr g w v d ∧ Tr g w u e := by
  cases h with
  | cons a b => obtain ⟨u, rfl, c⟩ := b.one; exact ⟨_, _, rfl, a, c⟩
def bfN : Bf → Str
  | .len => "len" | .sum => "sum" | .int => "int" | .tuple => "tuple" | .list => "list" | .max2 => "max" | .min2 => "min" | .abs => "abs" | .str => "str" | .all => "all" | .any => "any" | .maxl => "max" | .minl => "min" | .repr => "repr" | .dget _ => "len"
def bfV : Bf → Value
  | .len => .builtin "len" | .sum => .builtin "sum" | .int => .type "int" | .tuple => .type "tuple" | .list => .type "list" | .max2 => .builtin "max" | .min2 => .builtin "min" | .abs => .builtin "abs" | .str => .type "str" | .all => .builtin "all" | .any => .builtin "any" | .maxl => .builtin "max" | .minl => .builtin "min" | .repr => .builtin "repr" | .dget _ => .builtin "len"
theorem bf_boot (f : Bf) : bootBuiltins (bfN f) = some (bfV f) := by cases f <;> first | decide +kernel | (show bootBuiltins "len" = some (.builtin "len"); decide +kernel)
theorem bf_ne (f : Bf) : bfN f ≠ "__name__" := by cases f <;> first | decide +kernel | (show ("len" : Str) ≠ "__name__"; decide +kernel)
theorem bf_db (f : Bf) : (bfN f == ("__debug__" : Str)) = false := by cases f <;> first | decide +kernel | (show (("len" : Str) == ("__debug__" : Str)) = false; decide +kernel)
def bfR (K : PySem.W.Frag) : Bf → List V → Hp → VK → Prop
  | .len => fun xs H Q => ∃ x n, xs = [x] ∧ LenV K x H n ∧ Q (.int n) H
  | .sum => fun xs H Q => rSum K xs H Q ∨ rSumT K xs H Q
  | .int => fun xs H Q => ((∃ i, xs = [.int i] ∧ Q (.int i) H) ∨ ∃ k, xs = [.bl k] ∧ Q (.int (if k then 1 else 0)) H) ∨ ∃ a n, xs = [.str a] ∧ PySem.intText? a = some n ∧ a.length ≤ 640 ∧ Q (.int n) H
  | .tuple => fun xs H Q => ∃ p ys, xs = [.ref p] ∧ ((SqL K H p ys ∧ ∀ l, H l = none → Q (.ref l) (upd H l (.tup ys))) ∨ (SqT K H p ys ∧ Q (.ref p) H))
  | .list => fun xs H Q => ∃ p ys, xs = [.ref p] ∧ (SqL K H p ys ∨ SqT K H p ys) ∧ ∀ l, H l = none → Q (.ref l) (upd H l (.lst ys))
  | .max2 => fun xs H Q => ∃ i j, xs = [.int i, .int j] ∧ Q (.int (if j > i then j else i)) H
  | .min2 => fun xs H Q => ∃ i j, xs = [.int i, .int j] ∧ Q (.int (if j < i then j else i)) H
  | .abs => fun xs H Q => ∃ i, xs = [.int i] ∧ Q (.int (if i < 0 then -i else i)) H
  | .str => fun xs H Q => ∃ i, xs = [.int i] ∧ i.natAbs.log2 < 1920 ∧ Q (.str (toString i)) H
  | .all => rAll K
  | .any => rAny K
  | .maxl => rMax K
  | .minl => rMin K
  | .repr => fun xs H Q => ∃ x d, xs = [x] ∧ Dp K H x d ∧ reprOk d = true ∧ Q (.str d.shown) H
  | .dget _ => fun _ _ _ => False
theorem call_repr (hg : X.A.guards = some []) (hu : X.A.units + 65 < cLine) : CallR X (.builtin "repr") (fun xs H Q => ∃ x d, xs = [x] ∧ Dp X.K H x d ∧ reprOk d = true ∧ Q (.str d.shown) H) := by
  intro pins s σ H xs us Q I r h
  obtain ⟨x, d, rfl, hd, ok, q⟩ := h
  obtain ⟨u, rfl, ru⟩ := vals1 r
  obtain ⟨as, rd⟩ := Dp.reads I d x u hd ru
  unfold reprOk at ok
  obtain ⟨h1, ok⟩ := Bool.and_eq_true_iff.mp ok
  obtain ⟨h2, ok⟩ := Bool.and_eq_true_iff.mp ok
  obtain ⟨h3, h4⟩ := Bool.and_eq_true_iff.mp ok
  have h3 := of_decide_eq_true h3
  have h4 := of_decide_eq_true h4
  have hsm : d.hasDict = true → sysModules ∉ as := fun z => by rw [z] at h2; cases h2
  have key : ∀ a, u = .ref a → wpAny (model X.prog X.w) X.A (call (.builtin "repr") [u]) (EP X pins σ Q) X.xe s := fun a e => by
    subst e
    exact repr_of_reads' rd h1 hsm hg (by omega) (fun _ _ z => z) (fun h' u' tk hk => ⟨.str _, H, I.kept hk, ⟨_, rfl⟩, q⟩) h4
  cases rd with
  | none => exact PySem.P.repr_of_none ⟨.str _, H, I.tok _, ⟨_, rfl⟩, q⟩
  | bool b => exact PySem.P.repr_of_bool ⟨.str _, H, I.tok _, ⟨_, rfl⟩, q⟩
  | int i t => exact PySem.P.repr_of_int (of_decide_eq_true (by simpa [PyData.showable] using h1)) ⟨.str _, H, I.tok _, ⟨_, rfl⟩, q⟩
  | str y t => exact PySem.P.repr_of_str ⟨.str _, H, I.tok _, ⟨_, rfl⟩, q⟩ h4
  | list => exact key _ rfl
  | tuple => exact key _ rfl
  | dict => exact key _ rfl
theorem bf_call (hc : X.calm = true) (f : Bf) (hr : f = .repr → X.A.guards = some [] ∧ X.A.units + 65 < cLine) : CallR X (bfV f) (bfR X.K f) := by
  cases f with
  | len => exact call_len
  | sum => exact (cr_sum hc).or (cr_sumT hc)
  | int => exact call_int1.or call_int_str
  | tuple => exact call_tuple_of
  | list => exact call_list_of
  | max2 => exact call_max2 hc
  | min2 => exact call_min2 hc
  | abs => exact call_abs
  | str => exact call_str_int
  | all => exact cr_all hc
  | any => exact cr_any hc
  | maxl => exact cr_max hc
  | minl => exact cr_min hc
  | repr => exact call_repr (hr rfl).1 (hr rfl).2
  | dget _ => exact fun pins s σ H xs us Q I r h => h.elim
theorem bls_ok {K : PySem.W.Frag} {cl : Nat → Option Addr} {al : List Addr} {Hf : Hp} : ∀ {xs : List D} {vs : List V} {ns : List Bool}, Rs K cl al Hf vs xs → blsOf xs = some ns → vs = ns.map V.bl
  | [], _, _, .nil, h => by cases h; rfl
  | .bl i :: r, _, _, .cons (.bl _) t, h => by
    unfold blsOf at h
    cases q : blsOf r with
    | none => rw [q] at h; cases h
    | some ms => rw [q] at h; cases h; rw [bls_ok t q]; rfl
theorem foldl_max (a : Int) : ∀ (ns : List Int) (m : Int), m ∈ a :: ns → (∀ y ∈ a :: ns, y ≤ m) → m = ns.foldl max a
  | [], m, h, _ => by simpa using h
  | b :: ns, m, h, hu => by
    refine foldl_max (max a b) ns m ?_ fun y hy => ?_
    · have h1 := hu a List.mem_cons_self
      have h2 := hu b (List.mem_cons_of_mem _ List.mem_cons_self)
      rcases List.mem_cons.mp h with e | h
      · rw [e, Int.max_eq_left (by rw [← e]; exact h2)]; exact List.mem_cons_self
      · rcases List.mem_cons.mp h with e | h
        · rw [e, Int.max_eq_right (by rw [← e]; exact h1)]; exact List.mem_cons_self
        · exact List.mem_cons_of_mem _ h
    · rcases List.mem_cons.mp hy with e | hy
      · rw [e]; exact Int.max_le.mpr ⟨hu a List.mem_cons_self, hu b (List.mem_cons_of_mem _ List.mem_cons_self)⟩
      · exact hu y (List.mem_cons_of_mem _ (List.mem_cons_of_mem _ hy))
theorem foldl_min (a : Int) : ∀ (ns : List Int) (m : Int), m ∈ a :: ns → (∀ y ∈ a :: ns, m ≤ y) → m = ns.foldl min a
  | [], m, h, _ => by simpa using h
  | b :: ns, m, h, hu => by
    refine foldl_min (min a b) ns m ?_ fun y hy => ?_
    · have h1 := hu a List.mem_cons_self
      have h2 := hu b (List.mem_cons_of_mem _ List.mem_cons_self)
      rcases List.mem_cons.mp h with e | h
      · rw [e, Int.min_eq_left (by rw [← e]; exact h2)]; exact List.mem_cons_self
      · rcases List.mem_cons.mp h with e | h
        · rw [e, Int.min_eq_right (by rw [← e]; exact h1)]; exact List.mem_cons_self
        · exact List.mem_cons_of_mem _ h
    · rcases List.mem_cons.mp hy with e | hy
      · rw [e]; exact Int.le_min.mpr ⟨hu a List.mem_cons_self, hu b (List.mem_cons_of_mem _ List.mem_cons_self)⟩
      · exact hu y (List.mem_cons_of_mem _ (List.mem_cons_of_mem _ hy))
theorem blt_ok {g : G} {f : Bf} {vs : List V} {ds : List D} {d : D} (G0 : Good g w0 w ρ s σ) (hnd : ∀ kvs, f ≠ .dget kvs) (t : Trs g w vs ds) (h : bltD s f ds = some d) (hz : Go g W (kd (.blt f ps)) w0 w ρ σ (.ok d ρ s) Q) : bfR g.K f vs w.H Q := by
  have B := G0.base
  unfold bltD at h
  split at h
  · cases h
    obtain ⟨v1, rfl, t1⟩ := t.one
    obtain ⟨a, xs, rfl, h1, r, _⟩ := t1.tup B
    exact ⟨_, xs.length, rfl, .inr ⟨xs, h1, rfl⟩, by rw [r.length]; exact Go.here G0 hz (.int _)⟩
  · cases h
    obtain ⟨v1, rfl, t1⟩ := t.one
    obtain ⟨a, xs, rfl, h1, r⟩ := t1.lst B
    exact ⟨_, xs.length, rfl, .inl ⟨xs, SqL.of h1, rfl⟩, by rw [r.length]; exact Go.here G0 hz (.int _)⟩
  · cases h
    obtain ⟨v1, rfl, t1⟩ := t.one
    obtain ⟨a, rfl, h1⟩ := t1.scr B
    refine ⟨_, _, rfl, .inl ⟨_, h1, rfl⟩, ?_⟩
    rw [List.length_map]; exact Go.here G0 hz (.int _)
  · split at h
    · rename_i hc
      cases h
      obtain ⟨v1, rfl, t1⟩ := t.one
      cases t1.str
      exact ⟨_, _, rfl, ⟨cap_ok hc, rfl⟩, Go.here G0 hz (.int _)⟩
    · cases h
  · split at h
    · rename_i k xs e
      cases h
      obtain ⟨v1, rfl, t1⟩ := t.one
      obtain ⟨p, d, o, rfl, e1, e2, e3, r⟩ := t1.mref B
      rw [e] at e2
      cases e2
      cases r with
      | lst r => exact ⟨_, _, rfl, .inl ⟨_, SqL.of e3, rfl⟩, by rw [r.length]; exact Go.here G0 hz (.int _)⟩
    · cases h
  · obtain ⟨ns, e, e2⟩ := Option.map_eq_some_iff.mp h
    subst e2
    obtain ⟨v1, rfl, t1⟩ := t.one
    obtain ⟨a, xs, rfl, h1, r⟩ := t1.lst B
    cases ints_ok r e
    exact .inl ⟨_, ns, rfl, SqL.of h1, Go.here G0 hz (.int _)⟩
  · obtain ⟨ns, e, e2⟩ := Option.map_eq_some_iff.mp h
    subst e2
    obtain ⟨v1, rfl, t1⟩ := t.one
    obtain ⟨a, xs, rfl, h1, r, _⟩ := t1.tup B
    cases ints_ok r e
    exact .inr ⟨_, ns, rfl, h1, Go.here G0 hz (.int _)⟩
  · cases h
    obtain ⟨v1, rfl, t1⟩ := t.one
    cases t1.int
    exact .inl (.inl ⟨_, rfl, Go.here G0 hz (.int _)⟩)
  · cases h
    obtain ⟨v1, rfl, t1⟩ := t.one
    cases t1.bl
    exact .inl (.inr ⟨_, rfl, Go.here G0 hz (.int _)⟩)
  · cases h
    obtain ⟨v1, rfl, t1⟩ := t.one
    obtain ⟨a, xs, rfl, h1, r⟩ := t1.lst B
    exact ⟨a, xs, rfl, .inl ⟨SqL.of h1, Go.newK G0 hz fun p hp => .tup (SqT.of upd_same) ((step_upF B hp).rs r)⟩⟩
  · cases h
    obtain ⟨v1, rfl, t1⟩ := t.one
    obtain ⟨a, xs, rfl, h1, r, h2⟩ := t1.tup B
    exact ⟨a, xs, rfl, .inr ⟨h1, Go.here G0 hz (.tup h2 r)⟩⟩
  · cases h
    obtain ⟨v1, rfl, t1⟩ := t.one
    obtain ⟨a, xs, rfl, h1, r⟩ := t1.lst B
    exact ⟨a, xs, rfl, .inl (SqL.of h1), Go.newF G0 hz (.lst r)⟩
  · cases h
    obtain ⟨v1, rfl, t1⟩ := t.one
    obtain ⟨a, xs, rfl, h1, r, _⟩ := t1.tup B
    exact ⟨a, xs, rfl, .inr h1, Go.newF G0 hz (.lst r)⟩
  · cases h
    obtain ⟨v1, rfl, t1⟩ := t.one
    obtain ⟨a, rfl, h1⟩ := t1.scr B
    exact ⟨a, _, rfl, .inl h1, Go.newF G0 hz (.lst Rs.ints)⟩
  · cases h
    obtain ⟨v1, v2, rfl, t1, t2⟩ := t.two
    cases t1.int; cases t2.int
    exact ⟨_, _, rfl, Go.here G0 hz (.int _)⟩
  · cases h
    obtain ⟨v1, v2, rfl, t1, t2⟩ := t.two
    cases t1.int; cases t2.int
    exact ⟨_, _, rfl, Go.here G0 hz (.int _)⟩
  · cases h
    obtain ⟨v1, rfl, t1⟩ := t.one
    cases t1.int
    exact ⟨_, rfl, Go.here G0 hz (.int _)⟩
  · split at h
    · rename_i hl
      obtain ⟨n, e, e2⟩ := Option.map_eq_some_iff.mp h
      subst e2
      obtain ⟨v1, rfl, t1⟩ := t.one
      cases t1.str
      exact .inr ⟨_, n, rfl, e, hl, Go.here G0 hz (.int _)⟩
    · cases h
  · split at h
    · rename_i hl
      cases h
      obtain ⟨v1, rfl, t1⟩ := t.one
      cases t1.int
      exact ⟨_, rfl, hl, Go.here G0 hz (.str _)⟩
    · cases h
  · obtain ⟨bs, e, e2⟩ := Option.map_eq_some_iff.mp h
    subst e2
    obtain ⟨v1, rfl, t1⟩ := t.one
    obtain ⟨a, xs, rfl, h1, r⟩ := t1.lst B
    cases bls_ok r e
    exact ⟨_, bs, rfl, SqL.of h1, Go.here G0 hz (.bl _)⟩
  · obtain ⟨bs, e, e2⟩ := Option.map_eq_some_iff.mp h
    subst e2
    obtain ⟨v1, rfl, t1⟩ := t.one
    obtain ⟨a, xs, rfl, h1, r⟩ := t1.lst B
    cases bls_ok r e
    exact ⟨_, bs, rfl, SqL.of h1, Go.here G0 hz (.bl _)⟩
  · split at h
    · rename_i n ns e
      cases h
      obtain ⟨v1, rfl, t1⟩ := t.one
      obtain ⟨a, xs, rfl, h1, r⟩ := t1.lst B
      cases ints_ok r e
      exact ⟨_, n :: ns, rfl, SqL.of h1, by simp, fun m z1 z2 => by rw [foldl_max n ns m z1 z2]; exact Go.here G0 hz (.int _)⟩
    · cases h
  · split at h
    · rename_i n ns e
      cases h
      obtain ⟨v1, rfl, t1⟩ := t.one
      obtain ⟨a, xs, rfl, h1, r⟩ := t1.lst B
      cases ints_ok r e
      exact ⟨_, n :: ns, rfl, SqL.of h1, by simp, fun m z1 z2 => by rw [foldl_min n ns m z1 z2]; exact Go.here G0 hz (.int _)⟩
    · cases h
  · split at h
    · rename_i x e
      split at h
      · rename_i hx
        cases h
        obtain ⟨v1, rfl, t1⟩ := t.one
        exact ⟨_, x, rfl, t1.dp B e, hx, Go.here G0 hz (.str _)⟩
      · cases h
    · cases h
  · exact absurd rfl (hnd _)
  · cases h
theorem goA_bind {kd : Kd} {k : List D → En → List D → Out} {P : List V → Hp → Prop} (G0 : Good T.g w0 w ρ s σ) (h : Go T.g W kd w0 w ρ σ ((evs F ps ρ s).bind k) Q)
    (hp : ∀ vs w1 ds ρ1 s1, Good T.g w0 w1 ρ1 s1 σ → Ps T.g w1 ms vs ds → ds.length = ps.length → Go T.g W kd w0 w1 ρ1 σ (k ds ρ1 s1) Q → P vs w1.H) : tA F T.g W ms ps σ w.H P := by
  refine ⟨w0, w, ρ, s, rfl, G0, ?_⟩
  cases q : evs F ps ρ s with
  | ok d ρ' s' =>
    rw [q] at h
    exact fun v w' a b c e => hp v w' d ρ' s' a e (evs_len q) (Go.shift h b c)
  | exc c fs ρ' s' => rw [q] at h; exact h
  | bad => rw [q] at h; exact h
theorem r_blt {es : List Expr} {e : Expr} {pp pos : Pos} (f : Bf) (hnd : ∀ kvs, f ≠ .dget kvs) (hr : f = .repr → X.A.guards = some [] ∧ X.A.units + 65 < cLine) (K : X.K = T.g.K) (hc : X.calm = true) (hg : Gl X (bfN f)) (hm : X.mg (bfN f) = none) (hst : (e :: es).all notStar = true) (ha : PA X (e :: es) (tA F T.g W ms ps)) :
    PE X (.Call (.Name (bfN f) pp) (e :: es) [] pos) (tI F T.g W (kd (.blt f ps)) (.blt f ps)) := by
  rw [List.all_cons] at hst
  obtain ⟨h1, h2⟩ := Bool.and_eq_true_iff.mp hst
  have h0 : PE X (.Call (.Name (bfN f) pp) (e :: es) [] pos) (tCB (bfR X.K f) (tA F T.g W ms ps)) := by
    have bc := bf_call hc f hr
    have bb := bf_boot f
    have bn := bf_ne f
    have bd := bf_db f
    cases f with
    | len => exact pe_callB bc hg hm bb ha bn bd (starEach_of h1 es X.env) (noStars h2 _ _)
    | sum => exact pe_callB bc hg hm bb ha bn bd (starEach_of h1 es X.env) (noStars h2 _ _)
    | int => exact pe_callTy bc hg hm bb ha bn bd (starEach_of h1 es X.env) (noStars h2 _ _)
    | tuple => exact pe_callTy bc hg hm bb ha bn bd (starEach_of h1 es X.env) (noStars h2 _ _)
    | list => exact pe_callTy bc hg hm bb ha bn bd (starEach_of h1 es X.env) (noStars h2 _ _)
    | max2 => exact pe_callB bc hg hm bb ha bn bd (starEach_of h1 es X.env) (noStars h2 _ _)
    | min2 => exact pe_callB bc hg hm bb ha bn bd (starEach_of h1 es X.env) (noStars h2 _ _)
    | abs => exact pe_callB bc hg hm bb ha bn bd (starEach_of h1 es X.env) (noStars h2 _ _)
    | str => exact pe_callTy bc hg hm bb ha bn bd (starEach_of h1 es X.env) (noStars h2 _ _)
    | all => exact pe_callB bc hg hm bb ha bn bd (starEach_of h1 es X.env) (noStars h2 _ _)
    | any => exact pe_callB bc hg hm bb ha bn bd (starEach_of h1 es X.env) (noStars h2 _ _)
    | maxl => exact pe_callB bc hg hm bb ha bn bd (starEach_of h1 es X.env) (noStars h2 _ _)
    | minl => exact pe_callB bc hg hm bb ha bn bd (starEach_of h1 es X.env) (noStars h2 _ _)
    | repr => exact pe_callB bc hg hm bb ha bn bd (starEach_of h1 es X.env) (noStars h2 _ _)
    | dget kvs => exact absurd rfl (hnd kvs)
  refine PE.imp h0 fun σ H Q ⟨w0, w, ρ, s, e, G0, h⟩ => ?_
  subst e
  unfold ev at h
  simp only [fin_f] at h
  refine goA_bind G0 h fun vs w1 ds ρ1 s1 G1 hp _ h1 => ?_
  rw [K]
  cases q : bltD s1 f ds with
  | none => rw [q] at h1; exact h1.elim
  | some d => rw [q] at h1; exact blt_ok G1 hnd hp.trs q h1
/-! ### .get of a written dict -/
def tWGet (K : PySem.W.Frag) (a : Addr) (ta : TE) : TE := fun σ H Q => ta σ H fun y H1 => ∃ (z : Str) (o : Option Value) (v : V), y = .str z ∧ PySem.W.nsIn K a z = some o ∧ RelV v (o.getD .none) ∧ Q v H1
theorem pe_wget {x : Str} {a : Addr} {es : Array DictEntry} {n : Nat} {e : Expr} {ta : TE} {np apos cpos : Pos} (hg : Gl X x) (hm : X.mg x = some (.ref a)) (hdb : (x == ("__debug__" : Str)) = false) (hl : X.K.lookup a = some ⟨.type "dict", none, .dict es n, #[]⟩)
    (hk : PySem.W.KeysLit X.w.params es.toList) (low : (a == sysModules) = false) (he : PE X e ta) (m : M1 X (.Name x np) "get" apos e cpos) : PE X (.Call (.Attribute (.Name x np) "get" apos) [e] [] cpos) (tWGet X.K a ta) := by
  refine ⟨fun pins s σ H Q I h => ?_⟩
  have ho : PE X (.Name x np) (tC (.ref a)) := pe_glob hg hm rfl hdb
  refine wpAny_Call_method m.base m.few m.line PySem.F.plainAttrs_dict PySem.F.slot_dict_get PySem.F.type_dict_get (thn (ho.run pins s σ H (fun y H1 => y = .ref a ∧ H1 = H) I ⟨rfl, rfl⟩) fun u s1 ⟨y, H1, I1, ry, ey, eH⟩ => ?_)
  subst ey eH
  obtain rfl : u = Value.ref a := ry
  have dd := PySem.W.mapOf_K (prog := X.prog) (w := X.w) I1.kIn hl hk
  refine ⟨dd.typeIs, fun b q => ?_, ?_⟩
  · cases q
    exact ⟨_, I1.kIn _ _ hl, rfl⟩
  rw [m.trees]
  refine Calls.callWith_builtin rfl (Calls.evalArgs_plain (Calls.spliced_cons (thn (he.run pins s1 σ _ _ I1 h) fun iv s2 ⟨y, H2, I2, ry, z, o, v, ey, e1, rv, q2⟩ => Calls.spliced_nil ?_)))
  subst ey
  obtain ⟨t, rfl⟩ := (show ∃ t, iv = Value.str z t from ry)
  have dm := PySem.W.mapOf_K (prog := X.prog) (w := X.w) I2.kIn hl hk
  refine call_meetsIn PySem.F.slot_dict_get dm.typeIs PySem.F.entry_dict_get (PySem.F.args_dict_get_2 _ _) (meets_dict_get (strKind X.prog X.w) a (strKind_is X.prog X.w z t) low) ⟨_, dm, ?_⟩
  rw [PySem.W.find_K hl e1]
  exact ⟨v, H2, I2.tok _, rv, q2⟩
structure DGood (T : Tb) (x : Str) (kvs : List (Str × Option Int)) : Prop where
  ex : ∃ (a : Addr) (es : Array DictEntry) (n : Nat), T.mg x = some (.ref a) ∧ T.g.K.lookup a = some ⟨.type "dict", none, .dict es n, #[]⟩ ∧ PySem.W.KeysLit T.w.params es.toList ∧ (a == sysModules) = false ∧
    ∀ z o, kvs.lookup z = some o → ∃ u, PySem.W.nsIn T.g.K a z = some u ∧ match o with | some i => ∃ t, u = some (.int i t) | none => u = none
theorem r_wget {x : Str} {kvs : List (Str × Option Int)} {e : Expr} {np apos cpos : Pos} (dg : DGood T x kvs) (K : X.K = T.g.K) (hw : X.w = T.w) (hmg : X.mg = T.mg) (hg : Gl X x) (hdb : (x == ("__debug__" : Str)) = false) (hst : notStar e = true) (hln : (apos.endLine == cpos.line) = true)
    (he : PE X e (tI F T.g W k1 pa)) : PE X (.Call (.Attribute (.Name x np) "get" apos) [e] [] cpos) (tI F T.g W .k (.blt (.dget kvs) [pa])) := by
  obtain ⟨a, es, n, h1, h2, h3, h4, h5⟩ := dg.ex
  have h0 := pe_wget (np := np) (apos := apos) (cpos := cpos) hg (by rw [hmg]; exact h1) hdb (by rw [K]; exact h2) (by rw [hw]; exact h3) h4 he ⟨rfl, by rw [starEach_of hst]; rfl, hln, by rw [starEach_of hst]; rfl⟩
  refine PE.imp h0 fun σ H Q ⟨w0, w, ρ, s, e, G0, h⟩ => ?_
  subst e
  have ee : ev F (.blt (.dget kvs) [pa]) false ρ s = (ev F pa false ρ s).bind fun d ρ s => Out.get (bltD s (.dget kvs) [d]) ρ s := by
    show (evs F [pa] ρ s).bind _ = _
    show ((ev F pa false ρ s).bindL _).bind _ = _
    cases ev F pa false ρ s <;> rfl
  rw [ee] at h
  refine tI_mono (go_bind (kq := k1) G0 h) fun x H1 ⟨w1, d, ρ1, s1, M, px, h1⟩ => ?_
  obtain ⟨rfl, G1, S1, O1⟩ := M
  have t := px.tr G1.ext
  cases d with
  | str z =>
    cases t.str
    have eb : bltD s1 (.dget kvs) [.str z] = (kvs.lookup z).map oint := rfl
    rw [eb] at h1
    cases q : kvs.lookup z with
    | none => rw [q] at h1; exact h1.elim
    | some o =>
      rw [q] at h1
      obtain ⟨u, e1, e2⟩ := h5 z o q
      cases o with
      | some i =>
        obtain ⟨tk, rfl⟩ := e2
        exact ⟨z, _, .int i, rfl, by rw [K]; exact e1, ⟨tk, rfl⟩, Go.here G1 h1 (.int _)⟩
      | none =>
        have e3 : u = none := e2
        subst e3
        exact ⟨z, none, .non, rfl, by rw [K]; exact e1, rfl, Go.here G1 h1 .non⟩
  | _ => exact h1.elim
/-! ### isinstance -/
theorem tyx_of {g : G} {v : V} {d : D} (B : Base g w s) (t : Tr g w v d) {ty : Ty} {b : Bool} (h : isTy d ty = some b) : ∃ tv, TyX g.K w.H v tv ∧ PySem.W.kitOne g.K tv (.type (tyB ty)) = some b ∧ (∀ c, ty ≠ .own c) := by
  have lst : ∀ {a : Addr} {xs : List V}, w.H a = some (.lst xs) → TyX g.K w.H (.ref a) (.type "list") := fun h => .base (.lst h)
  cases d with
  | non =>
    cases t.non
    cases ty <;> (simp only [isTy] at h; first | (cases h; done) | (refine ⟨_, .base .non, ?_, fun c z => by cases z⟩; cases h; exact kit_ty (by decide +kernel)))
  | bl x =>
    cases t.bl
    cases ty <;> (simp only [isTy] at h; first | (cases h; done) | (refine ⟨_, .base (.bl x), ?_, fun c z => by cases z⟩; cases h; exact kit_ty (by decide +kernel)))
  | int x =>
    cases t.int
    cases ty <;> (simp only [isTy] at h; first | (cases h; done) | (refine ⟨_, .base (.int x), ?_, fun c z => by cases z⟩; cases h; exact kit_ty (by decide +kernel)))
  | str x =>
    cases t.str
    cases ty <;> (simp only [isTy] at h; first | (cases h; done) | (refine ⟨_, .base (.str x), ?_, fun c z => by cases z⟩; cases h; exact kit_ty (by decide +kernel)))
  | tup xs =>
    obtain ⟨a, ys, rfl, h1, r, _⟩ := t.tup B
    have hx : TyX g.K w.H (.ref a) (.type "tuple") := by
      rcases h1 with (h1 | ⟨o, h1⟩) | ⟨o, its, n, h1, h2, _⟩
      · exact .base (.tup h1)
      · exact .fTuple h1
      · exact .kTuple h1 h2
    cases ty <;> (simp only [isTy] at h; first | (cases h; done) | (refine ⟨_, hx, ?_, fun c z => by cases z⟩; cases h; exact kit_ty (by decide +kernel)))
  | lst xs =>
    obtain ⟨a, ys, rfl, h1, r⟩ := t.lst B
    cases ty <;> (simp only [isTy] at h; first | (cases h; done) | (refine ⟨_, lst h1, ?_, fun c z => by cases z⟩; cases h; exact kit_ty (by decide +kernel)))
  | scr _ => cases ty <;> cases h
  | obj _ _ => cases ty <;> cases h
  | mref _ => cases ty <;> cases h
  | dic =>
    obtain ⟨a, kvs, rfl, h1⟩ := t.dic B
    cases ty <;> (simp only [isTy] at h; first | (cases h; done) | (refine ⟨_, .base (.dK h1), ?_, fun c z => by cases z⟩; cases h; exact kit_ty (by decide +kernel)))
def tyOk : Ty → Bool
  | .own _ => false
  | _ => true
def tyN (t : Ty) : Str := Str.ofString (tyB t)
theorem ty_boot {t : Ty} (h : tyOk t = true) : bootBuiltins (tyN t) = some (.type (tyB t)) := by cases t <;> first | (cases h; done) | decide +kernel
/-- isinstance(x, T) with one built-in class -/
theorem r_isi {a : Expr} {t : Ty} {pp p2 pos : Pos} (K : X.K = T.g.K) (ht : tyOk t = true) (hg : Gl X "isinstance") (hm : X.mg "isinstance" = none) (hgt : Gl X (tyN t)) (hmt : X.mg (tyN t) = none) (hst : notStar a = true) (ha : PE X a (tI F T.g W k1 pa)) :
    PE X (.Call (.Name "isinstance" pp) [a, .Name (tyN t) p2] [] pos) (tI F T.g W .k (.isi pa [t])) := by
  have hty : PE X (.Name (tyN t) p2) (tC (.ty (tyB t))) := pe_bltn hgt hmt (ty_boot ht) rfl (by cases t <;> first | (cases ht; done) | decide +kernel) (by cases t <;> first | (cases ht; done) | decide +kernel)
  have h0 := pe_callB (pos := pos) (p := pp) (X := X) call_isi hg hm (show bootBuiltins "isinstance" = some (.builtin "isinstance") by decide +kernel) (pa_cons ha (pa_cons hty pa_nil) (starEach_of hst _ _)) (by decide +kernel) (by decide +kernel) (starEach_of hst _ _) (by rfl)
  refine PE.imp h0 fun σ H Q ⟨w0, w, ρ, s, e, G0, h⟩ => ?_
  subst e
  unfold ev at h
  simp only [fin_f] at h
  refine tI_mono (go_bind (kq := k1) G0 h) fun x H1 ⟨w1, d, ρ1, s1, M, px, h1⟩ => ?_
  obtain ⟨rfl, G1, S1, O1⟩ := M
  have e1 : isTys d [t] = isTy d t := by
    show (match isTy d t, some false with | some true, some _ => some true | some false, r => r | _, _ => none) = isTy d t
    cases isTy d t with
    | none => rfl
    | some b => cases b <;> rfl
  rw [e1] at h1
  cases q : isTy d t with
  | none => rw [q] at h1; exact h1.elim
  | some b =>
    rw [q] at h1
    obtain ⟨tv, ty, ko, _⟩ := tyx_of G1.base (px.tr G1.ext) q
    refine ⟨x, .ty (tyB t), tv, .type (tyB t), b, rfl, .ty _, by rw [K]; exact ty, by rw [K]; exact ko, Go.here G1 h1 (.bl b)⟩
end
end Z

namespace Z
open PySem PySem.Spec PyProof.Rows L2
section
variable {F : Fs} {T : Tb} {N : List Str} {sc : Scope} {ow : Str → Bool} {W : WX} {X : Cx} {p q pa pb pc : Ex} {w0 w w1 w2 w' : Ws} {ρ ρ1 : En} {s s1 s' : List D} {σ : L2.St} {H : Hp} {Q : VK} {k1 k2 k3 : Kd} {kk : Kd} {ms : List Bool} {ps : List Ex}
/-! ### freezing slots -/
theorem Good.frzAt {g : G} : ∀ {fz : List Nat} {w : Ws} {ρ : En}, Good g w0 w ρ s σ → ∃ w', w'.H = w.H ∧ Good g w0 w' (Z.frzAt ρ fz) s σ ∧ Step w w' ∧ Os ρ (Z.frzAt ρ fz)
  | [], w, ρ, G0 => ⟨w, rfl, G0, Step.refl w, Os.refl ρ⟩
  | i :: is, w, ρ, G0 => by
    unfold Z.frzAt
    split
    · rename_i d e
      obtain ⟨a, w1, e1, eH, G2, S2, O2, r2⟩ := G0.frz1 e
      obtain ⟨w2, e3, G3, S3, O3⟩ := Good.frzAt (fz := is) G2
      exact ⟨w2, e3.trans eH, G3, S2.trans S3, O2.trans O3⟩
    · exact Good.frzAt G0
/-! ### within a block -/
theorem wipeE_len (ρ : En) : ∀ vs : List Nat, (wipeE ρ vs).length = ρ.length
  | [] => rfl
  | v :: vs => by unfold wipeE; rw [List.length_set, wipeE_len ρ vs]
theorem wipeE_get {ρ : En} {i : Nat} {x : Sl} : ∀ {vs : List Nat}, (wipeE ρ vs)[i]? = some x → x ≠ .un → ρ[i]? = some x ∧ i ∉ vs
  | [], h, _ => ⟨h, by simp⟩
  | v :: vs, h, hx => by
    unfold wipeE at h
    by_cases hi : v = i
    · subst hi
      by_cases hv : v < (wipeE ρ vs).length
      · rw [List.getElem?_set_self hv] at h; cases h; exact absurd rfl hx
      · rw [List.getElem?_eq_none (by rw [List.length_set]; omega)] at h; cases h
    · rw [List.getElem?_set_ne hi] at h
      obtain ⟨a, b⟩ := wipeE_get h hx
      exact ⟨a, by simp [b, Ne.symm hi]⟩
theorem wipe_get {σ : L2.St} {i : Nat} : ∀ {vs : List Nat}, i ∉ vs → (wipe σ vs)[i]? = σ[i]?
  | [], _ => rfl
  | v :: vs, h => by
    unfold wipe
    rw [List.getElem?_set_ne (fun e => h (by simp [e]))]
    exact wipe_get fun hm => h (by simp [hm])
theorem wipe_gone {σ : L2.St} {i : Nat} : ∀ {vs : List Nat}, i ∈ vs → i < σ.length → (wipe σ vs)[i]? = some none
  | v :: vs, h, hl => by
    unfold wipe
    by_cases e : v = i
    · subst e
      rw [List.getElem?_set_self (by rw [wipe_length]; exact hl)]
    · rw [List.getElem?_set_ne e]
      exact wipe_gone (by simpa [Ne.symm e] using h) hl
theorem wipe_eq {σ σ' : L2.St} {vs : List Nat} (hl : σ'.length = σ.length) (h : ∀ i, i ∉ vs → σ'[i]? = σ[i]?) : wipe σ' vs = wipe σ vs := by
  refine List.ext_getElem? fun i => ?_
  by_cases hi : i ∈ vs
  · by_cases hb : i < σ.length
    · rw [wipe_gone hi hb, wipe_gone hi (by rw [hl]; exact hb)]
    · rw [List.getElem?_eq_none (by rw [wipe_length]; omega), List.getElem?_eq_none (by rw [wipe_length]; omega)]
  · rw [wipe_get hi, wipe_get hi, h i hi]
/-- the block's own world begins here: nothing is owned in it -/
theorem Good.blk {g : G} (G0 : Good g w0 w ρ s σ) (vs : List Nat) : Good g w w (blkE ρ vs) s (wipe σ vs) := by
  have key : ∀ {i : Nat} {x : Sl}, (blkE ρ vs)[i]? = some x → x ≠ .un → ∃ y, ρ[i]? = some y ∧ unS y = x ∧ i ∉ vs := fun {i x} h hx => by
    obtain ⟨a, b⟩ := wipeE_get h hx
    rw [List.getElem?_map] at a
    obtain ⟨y, e, e2⟩ := Option.map_eq_some_iff.mp a
    exact ⟨y, e, e2, b⟩
  refine ⟨G0.base, Step.refl w, fun a o h _ => h, by rw [wipe_length, blkE, wipeE_len, List.length_map]; exact G0.len, fun i d e => ?_, fun i d e => ?_, fun i d e => ?_, fun i j d d' a e _ _ _ => ?_, fun i c fs e => by
      obtain ⟨y, e1, e2, e3⟩ := key e (by intro z; cases z)
      cases y <;> cases e2⟩
  · obtain ⟨y, e1, e2, e3⟩ := key e (by intro z; cases z)
    cases y with
    | im d' =>
      cases e2
      obtain ⟨v, h1, h2⟩ := G0.im i d e1
      exact ⟨v, by rw [wipe_get e3]; exact h1, h2⟩
    | un => cases e2
    | ow d' => cases e2
    | br d' => cases e2
    | xc c fs => cases e2
  · obtain ⟨y, e1, e2, e3⟩ := key e (by intro z; cases z)
    cases y <;> cases e2
  · obtain ⟨y, e1, e2, e3⟩ := key e (by intro z; cases z)
    cases y with
    | br d' =>
      cases e2
      obtain ⟨v, h1, h2⟩ := G0.br i d e1
      exact ⟨v, by rw [wipe_get e3]; exact h1, h2.step G0.ext⟩
    | un => cases e2
    | ow d' => cases e2
    | im d' => cases e2
    | xc c fs => cases e2
  · obtain ⟨y, e1, e2, e3⟩ := key e (by intro z; cases z)
    cases y <;> cases e2
theorem Good.wipe {g : G} (G0 : Good g w0 w ρ s σ) (vs : List Nat) : Good g w0 w (wipeE ρ vs) s (L2.wipe σ vs) := by
  refine ⟨G0.base, G0.ext, G0.new, by rw [wipe_length, wipeE_len]; exact G0.len, fun i d e => ?_, fun i d e => ?_, fun i d e => ?_, fun i j d d' a e e' e2 e3 => ?_, fun i c fs e => by
      obtain ⟨e1, e3⟩ := wipeE_get e (by intro z; cases z)
      rw [wipe_get e3]
      exact G0.xc i c fs e1⟩
  · obtain ⟨e1, e3⟩ := wipeE_get e (by intro z; cases z)
    obtain ⟨v, h1, h2⟩ := G0.im i d e1
    exact ⟨v, by rw [wipe_get e3]; exact h1, h2⟩
  · obtain ⟨e1, e3⟩ := wipeE_get e (by intro z; cases z)
    obtain ⟨a, o, h1, h2⟩ := G0.ow i d e1
    exact ⟨a, o, by rw [wipe_get e3]; exact h1, h2⟩
  · obtain ⟨e1, e3⟩ := wipeE_get e (by intro z; cases z)
    obtain ⟨v, h1, h2⟩ := G0.br i d e1
    exact ⟨v, by rw [wipe_get e3]; exact h1, h2⟩
  · obtain ⟨f1, f3⟩ := wipeE_get e (by intro z; cases z)
    obtain ⟨f1', f3'⟩ := wipeE_get e' (by intro z; cases z)
    rw [wipe_get f3] at e2
    rw [wipe_get f3'] at e3
    exact G0.dis i j d d' a f1 f1' e2 e3
/-! ### targets -/
theorem pg_or {X : Cx} {e : Expr} {t u : TG} (h1 : PG X e t) (h2 : PG X e u) : PG X e (fun v σ H Q => t v σ H Q ∨ u v σ H Q) := ⟨fun pins s σ H v uu Q I r h => h.elim (h1.run pins s σ H v uu Q I r) (h2.run pins s σ H v uu Q I r)⟩

mutual
def gD (K : PySem.W.Frag) : Tg → TG
  | .nm i => gName i
  | .tp ts => fun v σ H Q => gTup K ts.length (gDs K ts) v σ H Q ∨ gUnl K ts.length (gDs K ts) v σ H Q
def gDs (K : PySem.W.Frag) : List Tg → TGs
  | [] => gNil
  | t :: ts => gCons (gD K t) (gDs K ts)
end
mutual
def slots : Tg → List Nat
  | .nm i => [i]
  | .tp ts => slotss ts
def slotss : List Tg → List Nat
  | [] => []
  | t :: ts => slots t ++ slotss ts
end
theorem Good.set {g : G} {v : V} {d : D} (G0 : Good g w0 w ρ s σ) (i : Nat) (r : Rw g w v d) : Good g w0 w (ρ.set i (.im d)) s (σ.set i (some v)) := by
  have key : ∀ {j : Nat} {x : Sl}, (ρ.set i (.im d))[j]? = some x → (i = j ∧ i < ρ.length ∧ x = .im d) ∨ (i ≠ j ∧ ρ[j]? = some x) := fun {j x} e => by
    by_cases hj : i = j
    · subst hj
      by_cases hi : i < ρ.length
      · rw [List.getElem?_set_self hi] at e; cases e; exact .inl ⟨rfl, hi, rfl⟩
      · rw [List.getElem?_eq_none (by rw [List.length_set]; omega)] at e; cases e
    · rw [List.getElem?_set_ne hj] at e; exact .inr ⟨hj, e⟩
  refine ⟨G0.base, G0.ext, G0.new, by rw [List.length_set, List.length_set]; exact G0.len, fun j d' e => ?_, fun j d' e => ?_, fun j d' e => ?_, fun j k d' d'' a e e' e2 e3 => ?_, fun j c fs e => by
      rcases key e with ⟨rfl, hi, e⟩ | ⟨hj, e⟩
      · cases e
      · rw [List.getElem?_set_ne hj]; exact G0.xc j c fs e⟩
  · rcases key e with ⟨rfl, hi, e⟩ | ⟨hj, e⟩
    · cases e
      exact ⟨v, by rw [List.getElem?_set_self (by rw [G0.len]; exact hi)], r⟩
    · rw [List.getElem?_set_ne hj]; exact G0.im j d' e
  · rcases key e with ⟨rfl, hi, e⟩ | ⟨hj, e⟩
    · cases e
    · rw [List.getElem?_set_ne hj]; exact G0.ow j d' e
  · rcases key e with ⟨rfl, hi, e⟩ | ⟨hj, e⟩
    · cases e
    · rw [List.getElem?_set_ne hj]; exact G0.br j d' e
  · rcases key e with ⟨rfl, hi, e⟩ | ⟨hj, e⟩
    · cases e
    · rcases key e' with ⟨rfl, hi, e'⟩ | ⟨hk, e'⟩
      · cases e'
      · rw [List.getElem?_set_ne hj] at e2; rw [List.getElem?_set_ne hk] at e3
        exact G0.dis j k d' d'' a e e' e2 e3
mutual
theorem bind_ok {g : G} : ∀ {t : Tg} {d : D} {v : V} {ρ ρ' : En} {σ : L2.St} {Q : L2.St → Hp → Prop}, Good g w0 w ρ s σ → Rw g w v d → bindT t d ρ = some ρ' →
    (∀ σ', Good g w0 w ρ' s σ' → σ'.length = σ.length → (∀ j, j ∉ slots t → σ'[j]? = σ[j]?) → Q σ' w.H) → gD g.K t v σ w.H Q
  | .nm i, d, v, ρ, ρ', σ, Q, G0, r, h, q => by
    unfold bindT at h
    split at h
    · cases h
      refine q _ (G0.set i r) (by rw [List.length_set]) fun j hj => ?_
      exact List.getElem?_set_ne (fun e => hj (by simp [slots, e]))
    · cases h
  | .tp ts, d, v, ρ, ρ', σ, Q, G0, r, h, q => by
    cases d with
    | tup ds =>
      cases r with
      | tup hs rs =>
        rename_i a xs
        have hl : ts.length = ds.length := binds_len (show bindTs ts ds ρ = some ρ' from h)
        exact .inl ⟨a, xs, rfl, sqT_mono G0.sub hs, by rw [rs.length, hl], binds_ok G0 rs (show bindTs ts ds ρ = some ρ' from h) q⟩
    | lst ds =>
      cases r with
      | lst hs rs =>
        rename_i a xs
        have hl : ts.length = ds.length := binds_len (show bindTs ts ds ρ = some ρ' from h)
        exact .inr ⟨a, xs, rfl, SqL.of (G0.sub _ _ hs), by rw [rs.length, hl], binds_ok G0 rs (show bindTs ts ds ρ = some ρ' from h) q⟩
    | _ => cases h
theorem binds_ok {g : G} : ∀ {ts : List Tg} {ds : List D} {vs : List V} {ρ ρ' : En} {σ : L2.St} {Q : L2.St → Hp → Prop}, Good g w0 w ρ s σ → Rws g w vs ds → bindTs ts ds ρ = some ρ' →
    (∀ σ', Good g w0 w ρ' s σ' → σ'.length = σ.length → (∀ j, j ∉ slotss ts → σ'[j]? = σ[j]?) → Q σ' w.H) → gDs g.K ts vs σ w.H Q
  | [], [], _, ρ, ρ', σ, Q, G0, .nil, h, q => by
    cases h
    exact ⟨rfl, q σ G0 rfl fun _ _ => rfl⟩
  | t :: ts, d :: ds, _, ρ, ρ', σ, Q, G0, .cons r rs, h, q => by
    rename_i v vs
    have h' : (match bindT t d ρ with | some ρ1 => bindTs ts ds ρ1 | none => none) = some ρ' := h
    cases q1 : bindT t d ρ with
    | none => rw [q1] at h'; cases h'
    | some ρ1 =>
      rw [q1] at h'
      refine ⟨v, vs, rfl, bind_ok G0 r q1 fun σ1 G1 l1 e1 => ?_⟩
      refine binds_ok G1 rs h' fun σ2 G2 l2 e2 => q σ2 G2 (l2.trans l1) fun j hj => ?_
      have hj' : j ∉ slots t ++ slotss ts := hj
      rw [List.mem_append] at hj'
      exact (e2 j fun z => hj' (.inr z)).trans (e1 j fun z => hj' (.inl z))
  | [], _ :: _, _, _, _, _, _, _, _, h, _ => by cases h
  | _ :: _, [], _, _, _, _, _, _, _, h, _ => by cases h
theorem binds_len : ∀ {ts : List Tg} {ds : List D} {ρ ρ' : En}, bindTs ts ds ρ = some ρ' → ts.length = ds.length
  | [], [], _, _, _ => rfl
  | t :: ts, d :: ds, ρ, ρ', h => by
    have h' : (match bindT t d ρ with | some ρ1 => bindTs ts ds ρ1 | none => none) = some ρ' := h
    cases q1 : bindT t d ρ with
    | none => rw [q1] at h'; cases h'
    | some ρ1 =>
      rw [q1] at h'
      simp [binds_len h']
  | [], _ :: _, _, _, h => by cases h
  | _ :: _, [], _, _, h => by cases h
end
end
end Z

namespace Z
open PySem PySem.Spec PyProof.Rows L2
/-! enumerate over a text -/
def Ites (x : Str) : L2.It := ⟨fun i _ => i < x.cps.size, fun i H v H' => ∃ T c, v = .ref T ∧ H T = none ∧ x.cps[i]? = some c ∧ H' = upd H T (.tup [.int (i : Nat), .str ⟨#[c]⟩]), fun i _ => x.cps.size ≤ i⟩
theorem turn_enumS {P : Program} {w : World} {K : PySem.W.Frag} {elts : List Expr} {kk : Nat} {tpos : Pos} (x : Str) (t : Tok) (ty : String) (hty : ty = "str_ascii_iterator" ∨ ty = "str_iterator") (e it : Addr) :
    Turn P w K (.Tuple elts kk tpos) (Ites x) [e, it] e (fun i h => (∃ old, IsEnum h e it ((i : Nat) : Int) old) ∧ h.IsStrIter it ty x t i ∧ e ≠ it) where
  mem := by simp
  obj := fun i h st b hb => by
    obtain ⟨⟨old, he⟩, ⟨o, ho, hc, hd⟩, _⟩ := st
    have e' : b = e ∨ b = it := by simpa using hb
    rcases e' with z | z
    · rw [z]; exact ⟨_, he, fun v q => nomatch q⟩
    · rw [z]; exact ⟨o, ho, fun v q => by rw [hd] at q; cases q⟩
  keep := fun i h h' st k => by
    obtain ⟨⟨old, he⟩, ⟨o, ho, r⟩, hne⟩ := st
    exact ⟨⟨old, k e (by simp) _ he⟩, ⟨o, k it (by simp) o ho, r⟩, hne⟩
  item := by
    intro X hP hw hK hc i pins s σ H E I hf st hg
    subst hP hw hK
    obtain ⟨⟨old, he⟩, hit, hne⟩ := st
    have hg : i < x.cps.size := hg
    have D : Draws X.prog X.w X.A.in1 it [it] x.cps.size (fun i v => ∃ c u, x.cps[i]? = some c ∧ v = .str ⟨#[c]⟩ u) (fun i h => h.IsStrIter it ty x t i) := by
      rcases hty with q | q
      · rw [q]; exact Draws.strAscii (A := X.A.in1) (I.ok.hd hc) it x t
      · rw [q]; exact Draws.strWide (A := X.A.in1) (I.ok.hd hc) it x t
    have hel : e < s.heap.objs.size := Heap.lt_size he
    have hil : it < s.heap.objs.size := by obtain ⟨_, q, _⟩ := hit; exact Heap.lt_size q
    refine wpAny_pyNext_enum_itemD D he hit hg hne (by simpa using hne) fun u h' tk ⟨c, tu, hcx, hu⟩ ho hit' hT hsz hk => ?_
    subst hu
    refine ⟨_, rfl, wpAny_letOwnedTupleGo_enum (s := { s with heap := h', toks := tk + 1 }) ho fun h'' he' sb => ?_⟩
    have hT2 : h''.get? s.heap.objs.size = some { cls := .type "tuple", data := .seq #[.int i tk, .str ⟨#[c]⟩ tu] } := (sb.2 _ (Nat.ne_of_gt hel)).trans hT
    have new : ObjOk X.prog X.w (upd H s.heap.objs.size (.tup [.int (i : Nat), .str ⟨#[c]⟩])) h'' s.heap.objs.size (.tup [.int (i : Nat), .str ⟨#[c]⟩]) :=
      ⟨by show 2 ≤ sizeLine; decide, [.int i tk, .str ⟨#[c]⟩ tu], .cons ⟨_, rfl⟩ (.cons ⟨_, rfl⟩ .nil), ⟨_, hT2, rfl, _, rfl⟩⟩
    have I1 : Inv X pins σ (upd H s.heap.objs.size (.tup [.int (i : Nat), .str ⟨#[c]⟩])) { s with heap := h'', toks := tk + 1 } :=
      I.turnedNew (ch := [e, it]) (fun b ob hb q => (sb.2 b (fun z => hb (by simp [z]))).trans (hk b ob (fun z => hb (by simp [z])) (fun z => hb (by simp [z])) q)) hf (Nat.le_refl _) new
    refine ⟨.ref s.heap.objs.size, _, I1, rfl, ⟨_, c, rfl, I.hok.fresh (Nat.le_refl _), hcx, rfl⟩, ⟨⟨.str ⟨#[c]⟩ tu, ?_⟩, ?_, hne⟩, fun b hb => ?_⟩
    · have e1 : ((i + 1 : Nat) : Int) = (i : Int) + 1 := by omega
      rw [e1]; exact he'
    · obtain ⟨o, ho', r⟩ := hit'
      exact ⟨o, (sb.2 it (Ne.symm hne)).trans ho', r⟩
    · have hb' : b < s.heap.objs.size := by
        have e' : b = e ∨ b = it := by simpa using hb
        rcases e' with z | z
        · rw [z]; exact hel
        · rw [z]; exact hil
      rw [upd_ne (Nat.ne_of_lt hb')]
      exact (hf b hb).1
  done := by
    intro X hP hw hK hc i pins s σ H E I hf st hg
    subst hP hw hK
    obtain ⟨⟨old, he⟩, hit, hne⟩ := st
    have hg : x.cps.size ≤ i := hg
    have hx : x.cps[i]? = none := Array.getElem?_eq_none hg
    have D : Draws X.prog X.w X.A.in1 it [it] i (fun _ _ => True) (fun j h => j = i ∧ h.IsStrIter it ty x t i) := by
      refine ⟨fun _ _ st => ?_, fun j h h' st hk => ?_, fun j s Q E hi st hQ => absurd st.1 (by omega), fun s Q E st hE => ?_⟩
      · obtain ⟨_, o, ho, _⟩ := st
        exact ⟨o, ho⟩
      · obtain ⟨ej, o, ho, r⟩ := st
        exact ⟨ej, o, hk it (by simp) o ho, r⟩
      · obtain ⟨_, st⟩ := st
        rcases hty with q | q
        · rw [q] at st; exact wpAny_nextOf_ascii_end (A := X.A.in1) (I.ok.hd hc) st hx hE
        · rw [q] at st; exact wpAny_nextOf_wide_end (A := X.A.in1) (I.ok.hd hc) st hx hE
    obtain ⟨f0, f1, f2, f3, f4, f5⟩ := hf it (by simp)
    exact wpAny_pyNext_enum_endD D he ⟨rfl, hit⟩ fun h' eb => ⟨rfl, I.turned (t' := s.toks) (fun b o hb q => eb b o hb q) f0 f1 f3 f4 f5⟩
  self := fun A i s Q E st h => let ⟨⟨_, he⟩, _⟩ := st; wpAny_pyIter_enum he h
def iEnumS (ta : TA) : TI := fun σ H R => ta σ H fun vs H1 => ∃ x, vs = [.str x] ∧ R (Ites x) H1
theorem pi_enumS {X : Cx} {e : Expr} {ta : TA} {p pos tpos : Pos} {elts : List Expr} {kk : Nat} (hg : Gl X "enumerate") (hm : X.mg "enumerate" = none) (ha : PA X [e] ta) (hs : starEach [e] X.env = [(false, eval e X.env)] := by rfl) :
    PI X (.Tuple elts kk tpos) (.Call (.Name "enumerate" p) [e] [] pos) (iEnumS ta) := by
  refine ⟨fun pins s σ H R I h => ?_⟩
  refine Call_ (ld_blt I hg hm boot_enumerate (PyProof.Rows.callWith_type1 (thn (ha.run pos pins s σ H _ I h) fun us s1 ⟨vs, H1, I1, r1, q1⟩ => ?_) hs rfl))
  obtain ⟨x, ex, q⟩ := q1
  subst ex
  cases r1 with
  | cons r rr =>
    cases rr
    obtain ⟨t, rfl⟩ := r
    refine call_enumerate_str fun h' he hit hsz hk => wpAny_pyIter_enum he ?_
    have I2 : Inv X pins σ H1 { s1 with heap := h' } := I1.kept (t' := s1.toks) hk
    have hty : strIterType x = "str_ascii_iterator" ∨ strIterType x = "str_iterator" := by
      unfold strIterType
      split
      · exact .inl rfl
      · exact .inr rfl
    refine ⟨s1.heap.objs.size + 1, [s1.heap.objs.size + 1, s1.heap.objs.size], _, _, H1, rfl, I2, turn_enumS x t (strIterType x) hty (s1.heap.objs.size + 1) s1.heap.objs.size, ⟨⟨.none, he⟩, hit, Nat.succ_ne_self _⟩, fun b hb => ?_, q⟩
    have e' : b = s1.heap.objs.size + 1 ∨ b = s1.heap.objs.size := by simpa using hb
    have hle : s1.heap.objs.size ≤ b := by
      rcases e' with z | z
      · rw [z]; exact Nat.le_add_right _ _
      · rw [z]; exact Nat.le_refl _
    exact I1.fpOk hle (I1.hok.fresh hle)
end Z

/-! enumerate over a tuple, over a list -/
namespace ZE
open PySem
open Sem (wp)
open AutoSeq1 (wpAny_loadPart')
abbrev tit (a : Addr) : Obj := { cls := .type "tuple_iterator", data := .fields #[.ref a, .int 0 0] }
abbrev enu (i : Addr) : Obj := { cls := .type "enumerate", data := .fields #[.none, .bool false, .ref i, rawInt 0, .none, .none] }
theorem newT (a : Addr) (xs : Array Value) (n : Nat) (dc : Option Addr) (sl : Array (Option Value)) :
    Meets (Builtin.«enumerate.__new__» ⟨[.type "enumerate", .ref a], []⟩) (fun _ R s => s.heap.get? a = some { cls := .type "tuple", dict := dc, data := .seq xs n, slots := sl } ∧
      R (.ok (.ret (.ref (s.heap.push (tit a)).objs.size))) { s with heap := (s.heap.push (tit a)).push (enu s.heap.objs.size) }) :=
  .of_wp fun prog w A R s h => by
    obtain ⟨hp, g, d, tk, os⟩ := s
    obtain ⟨hl, h⟩ := h
    have hsub := sub_enumerate
    have hL : Heap.IsTuple (Shared.heap ⟨hp, g, d, tk, os⟩) a xs := ⟨_, hl, rfl, n, rfl⟩
    wp_walk using wpAny_loadPart' hl
    refine wpAny_stack_any fun st => wpAny_pure ?_
    split
    · rename_i c _ _ _ _ _
      cases (c == Value.type "enumerate") <;> (wp_walk using wpAny_loadPart' hl, wpAny_pyIter_tuple hL; exact ⟨_, rfl, h⟩)
    · wp_walk using wpAny_loadPart' hl, wpAny_pyIter_tuple hL
      exact ⟨_, rfl, h⟩
section
variable {prog : Program} {w : World} {A : Around} {E : Value → Shared → Prop} {s : Shared}
theorem callT {a : Addr} {xs : Array Value} {Q : Value → Shared → Prop} (hL : s.heap.IsTuple a xs)
    (h : ∀ g, IsEnum g (s.heap.objs.size + 1) s.heap.objs.size 0 .none → g.IsTupleIter s.heap.objs.size a 0 → g.objs.size = s.heap.objs.size + 2 → (∀ b o, s.heap.get? b = some o → g.get? b = some o) → Q (.ref (s.heap.objs.size + 1)) { s with heap := g }) :
    wpAny (model prog w) A (call (.type "enumerate") [.ref a]) Q E s := by
  obtain ⟨⟨c, dc, dt, sl⟩, hl, hc, n, hd⟩ := hL
  replace hc : c = .type "tuple" := hc
  replace hd : dt = .seq xs n := hd
  subst hc hd
  refine callType_new F.called_enumerate (by decide) (F.typeCall_enumerate_1 _) (F.newCall_enumerate_1 _) (fun o => F.args_object_init_2 o _) F.entry_enumerate_new (newT a xs n dc sl) ⟨hl, ?_⟩
  have hz : (s.heap.push (tit a)).objs.size = s.heap.objs.size + 1 := Heap.size_push ..
  show _ ∧ _
  rw [hz]
  have he : IsEnum ((s.heap.push (tit a)).push (enu s.heap.objs.size)) (s.heap.objs.size + 1) s.heap.objs.size 0 .none := by
    have := Heap.get?_push_size (s.heap.push (tit a)) (o := enu s.heap.objs.size) rfl
    rw [hz] at this; exact this
  refine ⟨⟨_, he, rfl⟩, h _ he ⟨_, Heap.get?_push_of_some _ (Heap.get?_push_size _ rfl), rfl, rfl⟩ (by rw [Heap.size_push, hz]) fun b o q => ?_⟩
  exact Heap.get?_push_of_some _ (Heap.get?_push_of_some _ q)
end
theorem iterBut {h g : Heap} {it a : Addr} {i : Nat} (x : h.IsTupleIter it a i) (k : ∀ o, h.get? it = some o → g.get? it = some o) : g.IsTupleIter it a i := let ⟨o, ho, r⟩ := x; ⟨o, k o ho, r⟩
theorem tupBut {h g : Heap} {a : Addr} {xs : Array Value} (x : h.IsTuple a xs) (k : ∀ o, h.get? a = some o → g.get? a = some o) : g.IsTuple a xs := let ⟨o, ho, r⟩ := x; ⟨o, k o ho, r⟩
theorem drawsT {prog : Program} {w : World} {A : Around} (hh : A.handled = none) (it a : Addr) (hne : a ≠ it) (xs : Array Value) :
    Draws prog w A it [it, a] xs.size (fun i v => xs[i]? = some v) (fun i h => h.IsTupleIter it a i ∧ h.IsTuple a xs) where
  live := fun _ _ ⟨⟨o, ho, _⟩, _⟩ => ⟨o, ho⟩
  frame := fun _ _ _ ⟨x, y⟩ k => ⟨iterBut x fun o e => k it (by simp) o e, tupBut y fun o e => k a (by simp) o e⟩
  item := fun i s Q E hi ⟨x, y⟩ hQ => by
    refine RZ.nextOf_tuple_item x y (x := xs[i]) (by simp [hi]) fun g x' sb => ?_
    exact hQ _ g s.toks (by simp [hi]) ⟨x', y.extBut sb.extBut hne⟩ sb
  done := fun s Q E ⟨x, y⟩ hE => RZ.nextOf_tuple_end hh x y (by simp) hE
end ZE
namespace Z
open PySem PySem.Spec PyProof.Rows L2
def Itet (K : PySem.W.Frag) (a : Addr) : L2.It :=
  ⟨fun i H => ∃ (xs : List V) (x : V), SqT K H a xs ∧ xs[i]? = some x, fun i H v H' => ∃ T x, v = .ref T ∧ H T = none ∧ H' = upd H T (.tup [.int (i : Nat), x]) ∧ ∀ xs, SqT K H a xs → xs[i]? = some x, fun i H => ∃ xs : List V, SqT K H a xs ∧ xs.length ≤ i⟩
theorem turn_enumT {P : Program} {w : World} {K : PySem.W.Frag} {elts : List Expr} {kk : Nat} {tpos : Pos} (a e it : Addr) :
    Turn P w K (.Tuple elts kk tpos) (Itet K a) [e, it] e (fun i h => (∃ old, IsEnum h e it ((i : Nat) : Int) old) ∧ h.IsTupleIter it a i ∧ e ≠ it) where
  mem := by simp
  obj := fun i h ⟨⟨old, he⟩, ⟨o, ho, hc, hd⟩, _⟩ b hb => by
    rcases (show b = e ∨ b = it by simpa using hb) with rfl | rfl
    · exact ⟨_, he, fun v q => nomatch q⟩
    · exact ⟨o, ho, fun v q => by rw [hd] at q; cases q⟩
  keep := fun i h g ⟨⟨old, he⟩, x, hne⟩ k => ⟨⟨old, k e (by simp) _ he⟩, ZE.iterBut x fun o q => k it (by simp) o q, hne⟩
  item := by
    intro X hP hw hK hc i pins s σ H E I hf ⟨⟨old, he⟩, hit, hne⟩ ⟨xs, x, hq, hx⟩
    subst hP hw hK
    obtain ⟨its, rv, p, hz⟩ := I.tuple hq
    have p : s.heap.IsTuple a its.toArray := p
    obtain ⟨u, hu, ru⟩ := rv.get hx
    have ea : e ≠ a := fun z => by
      obtain ⟨o, ho, hc, _⟩ := p
      rw [← z, he] at ho; cases ho; simp at hc
    have ia : a ≠ it := fun z => by
      obtain ⟨o, ho, hc, _⟩ := p
      obtain ⟨o', ho', hc', _⟩ := hit
      rw [z, ho'] at ho; cases ho; rw [hc'] at hc; simp at hc
    have hi : i < its.toArray.size := by
      have := (List.getElem?_eq_some_iff.mp hu).1
      simpa using this
    have el : e < s.heap.objs.size := Heap.lt_size he
    have il : it < s.heap.objs.size := by obtain ⟨_, q, _⟩ := hit; exact Heap.lt_size q
    refine wpAny_pyNext_enum_itemD (ZE.drawsT (A := X.A.in1) (I.ok.hd hc) it a ia its.toArray) he ⟨hit, p⟩ hi hne (by simp [hne, ea]) fun u2 g tk hu2 ho ⟨hit', _⟩ hT hsz hk => ?_
    have e2 : u2 = u := by
      have h1 : its[i]? = some u2 := by simpa using hu2
      rw [hu] at h1; cases h1; rfl
    subst e2
    refine ⟨_, rfl, wpAny_letOwnedTupleGo_enum (s := { s with heap := g, toks := tk + 1 }) ho fun g2 he' sb => ?_⟩
    have hT2 : g2.get? s.heap.objs.size = some { cls := .type "tuple", data := .seq #[.int i tk, u2] } := (sb.2 _ (Nat.ne_of_gt el)).trans hT
    have new : ObjOk X.prog X.w (upd H s.heap.objs.size (.tup [.int (i : Nat), x])) g2 s.heap.objs.size (.tup [.int (i : Nat), x]) :=
      ⟨by show 2 ≤ sizeLine; decide, [.int i tk, u2], .cons ⟨_, rfl⟩ (.cons ru .nil), ⟨_, hT2, rfl, _, rfl⟩⟩
    have I1 : Inv X pins σ (upd H s.heap.objs.size (.tup [.int (i : Nat), x])) { s with heap := g2, toks := tk + 1 } :=
      I.turnedNew (ch := [e, it]) (fun b ob hb q => by
        have n1 : b ≠ e := fun z => hb (by simp [z])
        have n2 : b ≠ it := fun z => hb (by simp [z])
        exact (sb.2 b n1).trans (hk b ob n1 n2 q)) hf (Nat.le_refl _) new
    refine ⟨.ref s.heap.objs.size, _, I1, rfl, ⟨_, x, rfl, I.hok.fresh (Nat.le_refl _), rfl, fun ys hy => by rw [I.tuple_inj hy hq]; exact hx⟩, ⟨⟨u2, ?_⟩, ZE.iterBut hit' fun o q => (sb.2 it hne.symm).trans q, hne⟩, fun b hb => ?_⟩
    · rw [show ((i + 1 : Nat) : Int) = (i : Int) + 1 by omega]; exact he'
    · have lt : b < s.heap.objs.size := by
        rcases (show b = e ∨ b = it by simpa using hb) with rfl | rfl
        · exact el
        · exact il
      rw [upd_ne (Nat.ne_of_lt lt)]
      exact (hf b hb).1
  done := by
    intro X hP hw hK hc i pins s σ H E I hf ⟨⟨old, he⟩, hit, hne⟩ ⟨xs, hq, hl⟩
    subst hP hw hK
    obtain ⟨its, rv, p, hz⟩ := I.tuple hq
    have p : s.heap.IsTuple a its.toArray := p
    have hx : its.toArray[i]? = none := by
      have := rv.length
      simp; omega
    have D : Draws X.prog X.w X.A.in1 it [it, a] i (fun _ _ => True) (fun j h => j = i ∧ h.IsTupleIter it a i ∧ h.IsTuple a its.toArray) := by
      refine ⟨fun _ _ ⟨_, ⟨o, ho, _⟩, _⟩ => ⟨o, ho⟩, fun j h g ⟨ej, x, y⟩ k => ⟨ej, ZE.iterBut x fun o q => k it (by simp) o q, ZE.tupBut y fun o q => k a (by simp) o q⟩, fun j s Q E hi st hQ => absurd st.1 (by omega), fun s Q E ⟨_, x, y⟩ hE => ?_⟩
      exact RZ.nextOf_tuple_end (A := X.A.in1) (I.ok.hd hc) x y hx hE
    obtain ⟨f0, f1, f2, f3, f4, f5⟩ := hf it (by simp)
    exact wpAny_pyNext_enum_endD D he ⟨rfl, hit, p⟩ fun g eb => ⟨rfl, I.turned (t' := s.toks) (fun b o hb q => eb b o hb q) f0 f1 f3 f4 f5⟩
  self := fun A i s Q E ⟨⟨_, he⟩, _⟩ h => wpAny_pyIter_enum he h
def iEnumT (K : PySem.W.Frag) (ta : TA) : TI := fun σ H R => ta σ H fun vs H1 => ∃ a xs, vs = [.ref a] ∧ SqT K H1 a xs ∧ R (Itet K a) H1
theorem pi_enumT {X : Cx} {e : Expr} {ta : TA} {p pos tpos : Pos} {elts : List Expr} {kk : Nat} (hg : Gl X "enumerate") (hm : X.mg "enumerate" = none) (ha : PA X [e] ta) (hs : starEach [e] X.env = [(false, eval e X.env)] := by rfl) :
    PI X (.Tuple elts kk tpos) (.Call (.Name "enumerate" p) [e] [] pos) (iEnumT X.K ta) := by
  refine ⟨fun pins s σ H R I h => Call_ (ld_blt I hg hm boot_enumerate (PyProof.Rows.callWith_type1 (thn (ha.run pos pins s σ H _ I h) fun us s1 ⟨vs, H1, I1, r1, a, xs, ex, hq, q⟩ => ?_) hs rfl))⟩
  subst ex
  cases r1 with
  | cons r rr =>
    cases rr
    cases r
    obtain ⟨its, rv, p', hz⟩ := I1.tuple hq
    refine ZE.callT (show s1.heap.IsTuple a its.toArray from p') fun g he hit hsz hk => wpAny_pyIter_enum he ?_
    refine ⟨s1.heap.objs.size + 1, [s1.heap.objs.size + 1, s1.heap.objs.size], _, _, H1, rfl, I1.kept (t' := s1.toks) hk, turn_enumT a (s1.heap.objs.size + 1) s1.heap.objs.size, ⟨⟨.none, he⟩, hit, Nat.succ_ne_self _⟩, fun b hb => ?_, q⟩
    have le : s1.heap.objs.size ≤ b := by
      rcases (show b = s1.heap.objs.size + 1 ∨ b = s1.heap.objs.size by simpa using hb) with z | z
      · rw [z]; exact Nat.le_add_right _ _
      · rw [z]; exact Nat.le_refl _
    exact I1.fpOk le (I1.hok.fresh le)
end Z

namespace Z
open PySem PySem.Spec PyProof.Rows L2
section
variable {F : Fs} {T : Tb} {N : List Str} {sc : Scope} {ow : Str → Bool} {W : WX} {X : Cx} {p q pa pb pc : Ex} {w0 w w1 w2 w' : Ws} {ρ ρ1 : En} {s s1 s' : List D} {σ : L2.St} {H : Hp} {Q : VK} {k1 k2 k3 : Kd} {kk : Kd} {ms : List Bool} {ps : List Ex}
/-- what stays: the entry's things, the frozen ones -/
structure Sb (b : Bool) (w0 w1 w2 : Ws) : Prop where
  st : b = true → Step w0 w2
  hf : ∀ a o, w1.Hf a = some o → w2.Hf a = some o
  al : ∀ (k : Nat) (a : Addr), w1.al[k]? = some a → w2.al[k]? = some a
theorem Sb.of_step {b : Bool} (h0 : Step w0 w1) (S : Step w1 w2) : Sb b w0 w1 w2 := ⟨fun _ => h0.trans S, S.hf, S.al⟩
/-- the iterator J walks the items xs -/
def JI (b : Bool) (g : G) (w0 w1 : Ws) (J : L2.It) (xs : List D) : Prop := ∀ w2 s2, Base g w2 s2 → Sb b w0 w1 w2 → ∀ i : Nat,
  (∀ d, xs[i]? = some d → J.go i w2.H ∧ ∀ x H', J.yld i w2.H x H' → ∃ w3, w3.H = H' ∧ (w3 = w2 ∨ ∃ p o, w2.H p = none ∧ w3 = w2.upF p o) ∧ Rw g w3 x d) ∧ (xs.length ≤ i → J.stop i w2.H)
def tIt (b : Bool) (F : Fs) (g : G) (W : WX) (it : Z.It) : TI := fun σ H R => ∃ w0 w ρ s, w.H = H ∧ Good g w0 w ρ s σ ∧ match evI F it ρ s with
  | .ok d ρ' s' => ∃ xs, itemsOf d = some xs ∧ ∀ J w', Good g w0 w' ρ' s' σ → Step w w' → Os ρ ρ' → JI b g w0 w' J xs → R J w'.H
  | .exc c fs ρ' s' => ∀ C d w', Good g w0 w' ρ' s' σ → g.cl c = some C → XD g w' d fs → W (.ref C) d σ w'.H
  | .bad => False
theorem PI.imp {tg e : Expr} {t t' : TI} (h : PI X tg e t) (i : ∀ σ H R, t' σ H R → t σ H R) : PI X tg e t' := ⟨fun pins s σ H R I hw => h.run pins s σ H R I (i σ H R hw)⟩
theorem PI.or {tg e : Expr} {t t' : TI} (h : PI X tg e t) (h' : PI X tg e t') : PI X tg e (fun σ H R => t σ H R ∨ t' σ H R) := ⟨fun pins s σ H R I hw => by
  rcases hw with hw | hw
  · exact h.run pins s σ H R I hw
  · exact h'.run pins s σ H R I hw⟩
theorem ji_seqL {b : Bool} {g : G} {a : Addr} {xs : List D} (h : ∀ w2 s2, Base g w2 s2 → Sb b w0 w1 w2 → ∃ vs, SqL g.K w2.H a vs ∧ Rws g w2 vs xs) : JI b g w0 w1 (Itl g.K a) xs := by
  intro w2 s2 B S i
  obtain ⟨vs, hs, r⟩ := h w2 s2 B S
  refine ⟨fun d hd => ?_, fun hl => ⟨vs, hs, by rw [r.length]; exact hl⟩⟩
  obtain ⟨v, e, rv⟩ := r.get hd
  refine ⟨⟨vs, v, hs, e⟩, fun x H' ⟨eH, hx⟩ => ⟨w2, eH.symm, .inl rfl, ?_⟩⟩
  have := hx vs hs
  rw [e] at this; cases this
  exact rv
theorem ji_seqT {b : Bool} {g : G} {a : Addr} {xs : List D} (h : ∀ w2 s2, Base g w2 s2 → Sb b w0 w1 w2 → ∃ vs, SqT g.K w2.H a vs ∧ Rws g w2 vs xs) : JI b g w0 w1 (Itt g.K a) xs := by
  intro w2 s2 B S i
  obtain ⟨vs, hs, r⟩ := h w2 s2 B S
  refine ⟨fun d hd => ?_, fun hl => ⟨vs, hs, by rw [r.length]; exact hl⟩⟩
  obtain ⟨v, e, rv⟩ := r.get hd
  refine ⟨⟨vs, v, hs, e⟩, fun x H' ⟨eH, hx⟩ => ⟨w2, eH.symm, .inl rfl, ?_⟩⟩
  have := hx vs hs
  rw [e] at this; cases this
  exact rv
theorem signs_get {x : Str} {i : Nat} {d : D} (h : (signsD x)[i]? = some d) : ∃ c, x.cps[i]? = some c ∧ d = .str ⟨#[c]⟩ := by
  unfold signsD at h
  rw [List.getElem?_map] at h
  obtain ⟨c, e, e2⟩ := Option.map_eq_some_iff.mp h
  exact ⟨c, by simpa using e, e2.symm⟩
theorem signs_len (x : Str) : (signsD x).length = x.cps.size := by simp [signsD]
theorem enm_get {xs : List D} {i : Nat} {d : D} (h : (enmD xs)[i]? = some d) : ∃ c, xs[i]? = some c ∧ d = .tup [.int (i : Nat), c] := by
  unfold enmD at h
  rw [List.getElem?_map] at h
  obtain ⟨⟨c, j⟩, e, e2⟩ := Option.map_eq_some_iff.mp h
  rw [List.getElem?_zipIdx] at e
  obtain ⟨y, e3, e4⟩ := Option.map_eq_some_iff.mp e
  cases e4
  exact ⟨_, e3, by rw [← e2]; simp⟩
theorem enm_len (xs : List D) : (enmD xs).length = xs.length := by simp [enmD]
theorem ji_str {b : Bool} {g : G} {x : Str} : JI b g w0 w1 (Its x) (signsD x) := by
  intro w2 s2 B S i
  refine ⟨fun d hd => ?_, fun hl => ?_⟩
  · obtain ⟨c, hc, rfl⟩ := signs_get hd
    refine ⟨(Array.getElem?_eq_some_iff.mp hc).1, fun v H' ⟨eH, c', hc', hv⟩ => ⟨w2, eH.symm, .inl rfl, ?_⟩⟩
    rw [hc] at hc'; cases hc'
    rw [hv]
    exact .str _
  · rw [signs_len] at hl
    exact hl
theorem ji_enumS {b : Bool} {g : G} {x : Str} : JI b g w0 w1 (Ites x) (enmD (signsD x)) := by
  intro w2 s2 B S i
  refine ⟨fun d hd => ?_, fun hl => ?_⟩
  · obtain ⟨y, hy, rfl⟩ := enm_get hd
    obtain ⟨c, hc, rfl⟩ := signs_get hy
    refine ⟨(Array.getElem?_eq_some_iff.mp hc).1, fun v H' ⟨T, c', hv, hT, hc', eH⟩ => ⟨w2.upF T (.tup [.int (i : Nat), .str ⟨#[c']⟩]), eH.symm, .inr ⟨T, _, hT, rfl⟩, ?_⟩⟩
    rw [hc] at hc'; cases hc'
    rw [hv]
    exact .tup (SqT.of upd_same) (.cons (.int _) (.cons (.str _) .nil))
  · rw [enm_len, signs_len] at hl
    exact hl
theorem Sb.tr {b : Bool} {g : G} {v : V} {d : D} (S : Sb b w0 w1 w2) (h : Rw g w1 v d ∨ (b = true ∧ Tr g w0 v d)) : Tr g w2 v d := by
  rcases h with h | ⟨hb, h⟩
  · exact .inl (h.mono S.hf S.al)
  · exact h.step (S.st hb)
/-- .. frozen, or (where b) the entry's -/
theorem postC_tr {b : Bool} {g : G} {v : V} {d : D} (h : Rw g w' v d ∨ (b = true ∧ Tr g w0 v d)) (E : Step w0 w') : Tr g w' v d := by
  rcases h with h | ⟨_, h⟩
  · exact .inl h
  · exact h.step E
def GoK (b : Bool) (g : G) (W : WX) (w0 w : Ws) (ρ : En) (σ : L2.St) (o : Out) (Q : VK) : Prop := match o with
  | .ok d ρ' s' => ∀ v w', Good g w0 w' ρ' s' σ → Step w w' → Os ρ ρ' → (Rw g w' v d ∨ (b = true ∧ Tr g w0 v d)) → Q v w'.H
  | .exc c fs ρ' s' => ∀ C d w', Good g w0 w' ρ' s' σ → g.cl c = some C → XD g w' d fs → W (.ref C) d σ w'.H
  | .bad => False
theorem tI_c {b : Bool} {kq : Kd} (h : kq ≠ .b) (hb : b = false → kq ≠ .s) (hw : ∃ w0 w ρ s, w.H = H ∧ Good T.g w0 w ρ s σ ∧ GoK b T.g W w0 w ρ σ (ev F p false ρ s) Q) : tI F T.g W kq p σ H Q := by
  obtain ⟨w0, w, ρ, s, e, G0, z⟩ := hw
  by_cases hs : kq = .s
  · subst hs
    have hb' : b = true := by
      cases b with
      | true => rfl
      | false => exact absurd rfl (hb rfl)
    refine ⟨w0, w, ρ, s, e, G0, ?_⟩
    cases q : ev F p false ρ s with
    | exc c fs ρ' s' => rw [q] at z; exact z
    | bad => rw [q] at z; exact z
    | ok d ρ' s' =>
      rw [q] at z
      intro v w' G1 S O hp
      refine z v w' G1 S O ?_
      rcases hp with hp | hp
      · exact .inl hp
      · exact .inr ⟨hb', hp⟩
  · refine tI_k h hs ⟨w0, w, ρ, s, e, G0, ?_⟩
    cases q : ev F p false ρ s with
    | exc c fs ρ' s' => rw [q] at z; exact z
    | bad => rw [q] at z; exact z
    | ok d ρ' s' => rw [q] at z; exact fun v w' G1 S O hp => z v w' G1 S O (.inl hp)
theorem r_seq {b : Bool} {tg e : Expr} (K : X.K = T.g.K) (hk : kk ≠ .b) (hb : b = false → kk ≠ .s) (he : PE X e (tI F T.g W kk p)) : PI X tg e (tIt b F T.g W (.seq p)) := by
  refine PI.imp (PI.or (PI.or (pi_list he) (pi_tup he)) (pi_str he)) fun σ H R ⟨w0, w, ρ, s, e0, G0, h⟩ => ?_
  subst e0
  have e1 : evI F (.seq p) ρ s = ev F p false ρ s := rfl
  rw [e1] at h
  cases q : ev F p false ρ s with
  | bad => rw [q] at h; exact h.elim
  | exc c fs ρ' s' =>
    rw [q] at h
    refine .inl (.inl (tI_c hk hb ⟨w0, w, ρ, s, rfl, G0, ?_⟩))
    rw [q]; exact h
  | ok d ρ' s' =>
    rw [q] at h
    obtain ⟨xs, hx, h⟩ := h
    cases d with
    | lst ds =>
      cases hx
      refine .inl (.inl (tI_c hk hb ⟨w0, w, ρ, s, rfl, G0, ?_⟩))
      rw [q]
      intro v w' G1 S O hp
      obtain ⟨a, vs, rfl, h1, r1⟩ := (show Tr T.g w' v (.lst xs) from postC_tr hp G1.ext).lst G1.base
      refine ⟨a, rfl, ⟨vs, SqL.of h1⟩, ?_⟩
      rw [K]
      refine h _ w' G1 S O (ji_seqL fun w2 s2 B2 S2 => ?_)
      obtain ⟨a', vs', e, h2, r2⟩ := (S2.tr hp).lst B2
      cases e
      exact ⟨vs', SqL.of h2, r2⟩
    | scr ns =>
      cases hx
      refine .inl (.inl (tI_c hk hb ⟨w0, w, ρ, s, rfl, G0, ?_⟩))
      rw [q]
      intro v w' G1 S O hp
      obtain ⟨a, rfl, h1⟩ := (show Tr T.g w' v (.scr ns) from postC_tr hp G1.ext).scr G1.base
      refine ⟨a, rfl, ⟨_, by rw [K]; exact h1⟩, ?_⟩
      rw [K]
      refine h _ w' G1 S O (ji_seqL fun w2 s2 B2 S2 => ?_)
      obtain ⟨a', e, h2⟩ := (S2.tr hp).scr B2
      cases e
      exact ⟨_, h2, Rs.ints⟩
    | tup ds =>
      cases hx
      refine .inl (.inr (tI_c hk hb ⟨w0, w, ρ, s, rfl, G0, ?_⟩))
      rw [q]
      intro v w' G1 S O hp
      obtain ⟨a, vs, rfl, h1, r1, _⟩ := (show Tr T.g w' v (.tup xs) from postC_tr hp G1.ext).tup G1.base
      refine ⟨a, rfl, ⟨vs, by rw [K]; exact h1⟩, ?_⟩
      rw [K]
      refine h _ w' G1 S O (ji_seqT fun w2 s2 B2 S2 => ?_)
      obtain ⟨a', vs', e, h2, r2, _⟩ := (S2.tr hp).tup B2
      cases e
      exact ⟨vs', h2, r2⟩
    | str z =>
      cases hx
      refine .inr (tI_c hk hb ⟨w0, w, ρ, s, rfl, G0, ?_⟩)
      rw [q]
      intro v w' G1 S O hp
      have t := (show Tr T.g w' v (.str z) from postC_tr hp G1.ext).str
      subst t
      exact ⟨z, rfl, h _ w' G1 S O ji_str⟩
    | _ => cases hx
theorem ji_enumL {b : Bool} {g : G} {a : Addr} {xs : List D} (h : ∀ w2 s2, Base g w2 s2 → Sb b w0 w1 w2 → ∃ vs, SqL g.K w2.H a vs ∧ Rws g w2 vs xs) : JI b g w0 w1 (Ite g.K a) (enmD xs) := by
  intro w2 s2 B S i
  obtain ⟨vs, hs, r⟩ := h w2 s2 B S
  refine ⟨fun d hd => ?_, fun hl => ⟨vs, hs, by rw [r.length]; rw [enm_len] at hl; exact hl⟩⟩
  obtain ⟨c, hc, rfl⟩ := enm_get hd
  obtain ⟨v, e, rv⟩ := r.get hc
  refine ⟨⟨vs, v, hs, e⟩, fun x H' ⟨T, y, hv, hT, eH, hx⟩ => ⟨w2.upF T (.tup [.int (i : Nat), y]), eH.symm, .inr ⟨T, _, hT, rfl⟩, ?_⟩⟩
  have := hx vs hs
  rw [e] at this; cases this
  rw [hv]
  exact .tup (SqT.of upd_same) (.cons (.int _) (.cons ((step_upF B hT).r rv) .nil))
theorem ji_enumT {b : Bool} {g : G} {a : Addr} {xs : List D} (h : ∀ w2 s2, Base g w2 s2 → Sb b w0 w1 w2 → ∃ vs, SqT g.K w2.H a vs ∧ Rws g w2 vs xs) : JI b g w0 w1 (Itet g.K a) (enmD xs) := by
  intro w2 s2 B S i
  obtain ⟨vs, hs, r⟩ := h w2 s2 B S
  refine ⟨fun d hd => ?_, fun hl => ⟨vs, hs, by rw [r.length]; rw [enm_len] at hl; exact hl⟩⟩
  obtain ⟨c, hc, rfl⟩ := enm_get hd
  obtain ⟨v, e, rv⟩ := r.get hc
  refine ⟨⟨vs, v, hs, e⟩, fun x H' ⟨T, y, hv, hT, eH, hx⟩ => ⟨w2.upF T (.tup [.int (i : Nat), y]), eH.symm, .inr ⟨T, _, hT, rfl⟩, ?_⟩⟩
  have := hx vs hs
  rw [e] at this; cases this
  rw [hv]
  exact .tup (SqT.of upd_same) (.cons (.int _) (.cons ((step_upF B hT).r rv) .nil))
theorem r_enm {b : Bool} {elts : List Expr} {kt : Nat} {a : Expr} {pp pos tpos : Pos} (K : X.K = T.g.K) (hk : kk ≠ .b) (hb : b = false → kk ≠ .s) (hg : Gl X "enumerate") (hm : X.mg "enumerate" = none) (hst : notStar a = true) (ha : PE X a (tI F T.g W kk p)) : PI X (.Tuple elts kt tpos) (.Call (.Name "enumerate" pp) [a] [] pos) (tIt b F T.g W (.enm p)) := by
  have hp1 := pa_cons ha pa_nil (starEach_of hst ([] : List Expr) X.env)
  have hp2 : starEach [a] X.env = [(false, eval a X.env)] := starEach_of hst _ _
  refine PI.imp (PI.or (PI.or (pi_enumS hg hm hp1 hp2) (pi_enum hg hm hp1 hp2)) (pi_enumT hg hm hp1 hp2)) fun σ H R ⟨w0, w, ρ, s, e0, G0, h⟩ => ?_
  subst e0
  have e1 : evI F (.enm p) ρ s = (ev F p false ρ s).bind fun x ρ s => match x with
    | .str z => .ok (.lst (enmD (signsD z))) ρ s
    | .lst xs => .ok (.lst (enmD xs)) ρ s
    | .tup xs => .ok (.lst (enmD xs)) ρ s
    | _ => .bad := rfl
  rw [e1] at h
  cases q : ev F p false ρ s with
  | bad => rw [q] at h; exact h.elim
  | exc c fs ρ' s' =>
    rw [q] at h
    refine .inl (.inl (tI_c hk hb ⟨w0, w, ρ, s, rfl, G0, ?_⟩))
    rw [q]; exact h
  | ok d ρ' s' =>
    rw [q, Out.bind_ok] at h
    cases d with
    | str z =>
      refine .inl (.inl (tI_c hk hb ⟨w0, w, ρ, s, rfl, G0, ?_⟩))
      rw [q]
      intro v w' G1 S O hp
      cases (show Tr T.g w' v (.str z) from postC_tr hp G1.ext).str
      obtain ⟨xs, hx, h⟩ := h
      cases hx
      exact ⟨z, rfl, h _ w' G1 S O ji_enumS⟩
    | lst ds =>
      refine .inl (.inr (tI_c hk hb ⟨w0, w, ρ, s, rfl, G0, ?_⟩))
      rw [q]
      intro v w' G1 S O hp
      obtain ⟨a1, vs, rfl, h1, r1⟩ := (show Tr T.g w' v (.lst ds) from postC_tr hp G1.ext).lst G1.base
      obtain ⟨xs, hx, h⟩ := h
      cases hx
      refine ⟨a1, vs, rfl, SqL.of h1, ?_⟩
      rw [K]
      refine h _ w' G1 S O (ji_enumL fun w2 s2 B2 S2 => ?_)
      obtain ⟨a', vs', e, h2, r2⟩ := (S2.tr hp).lst B2
      cases e
      exact ⟨vs', SqL.of h2, r2⟩
    | tup ds =>
      refine .inr (tI_c hk hb ⟨w0, w, ρ, s, rfl, G0, ?_⟩)
      rw [q]
      intro v w' G1 S O hp
      obtain ⟨a1, vs, rfl, h1, r1, _⟩ := (show Tr T.g w' v (.tup ds) from postC_tr hp G1.ext).tup G1.base
      obtain ⟨xs, hx, h⟩ := h
      cases hx
      refine ⟨a1, vs, rfl, by rw [K]; exact h1, ?_⟩
      rw [K]
      refine h _ w' G1 S O (ji_enumT fun w2 s2 B2 S2 => ?_)
      obtain ⟨a', vs', e, h2, r2, _⟩ := (S2.tr hp).tup B2
      cases e
      exact ⟨vs', h2, r2⟩
    | _ => exact h.elim
theorem rangeD_get {lo : Int} {n i : Nat} {d : D} (h : (rangeD lo n)[i]? = some d) : i < n ∧ d = .int (lo + i) := by
  unfold rangeD at h
  rw [List.getElem?_map] at h
  obtain ⟨k, e, e2⟩ := Option.map_eq_some_iff.mp h
  obtain ⟨hl, e3⟩ := List.getElem?_eq_some_iff.mp e
  rw [List.length_range] at hl
  rw [List.getElem_range] at e3
  subst e3
  exact ⟨hl, e2.symm⟩
theorem ji_range {b : Bool} {g : G} {lo : Int} {n : Nat} : JI b g w0 w1 (Itr lo n) (rangeD lo n) := by
  intro w2 s2 B S i
  refine ⟨fun d hd => ?_, fun hl => (show n ≤ i by simpa [rangeD] using hl)⟩
  obtain ⟨hi, rfl⟩ := rangeD_get hd
  exact ⟨hi, fun x H' ⟨eH, hx⟩ => ⟨w2, eH.symm, .inl rfl, by rw [hx]; exact .int _⟩⟩
theorem r_rng1 {b : Bool} {tg a : Expr} {pp pos : Pos} (hg : Gl X "range") (hm : X.mg "range" = none) (hst : notStar a = true) (ha : PE X a (tI F T.g W kk p)) : PI X tg (.Call (.Name "range" pp) [a] [] pos) (tIt b F T.g W (.rng1 p)) := by
  refine PI.imp (pi_range1 hg hm (pa_cons ha pa_nil (starEach_of hst _ _)) (starEach_of hst _ _)) fun σ H R ⟨w0, w, ρ, s, e0, G0, h⟩ => ?_
  subst e0
  have e1 : evI F (.rng1 p) ρ s = (ev F p false ρ s).bind fun x ρ s => match x with
    | .int n => if n ≤ 100000 ∧ -100000 ≤ n then .ok (.lst (rangeD 0 n.toNat)) ρ s else .bad
    | _ => .bad := rfl
  rw [e1] at h
  refine ⟨w0, w, ρ, s, rfl, G0, ?_⟩
  cases q : ev F p false ρ s with
  | bad => rw [q] at h; exact h.elim
  | exc c fs ρ' s' => rw [q] at h; exact h
  | ok d ρ' s' =>
    rw [q] at h
    intro v w' G1 S O hp
    have t := hp.tr G1.ext
    rw [Out.bind_ok] at h
    cases d with
    | int n =>
      cases t.int
      dsimp only at h
      split at h
      · rename_i xx d1 ρ1 s1 q1
        split at q1
        · rename_i hn
          cases q1
          obtain ⟨xs, hx, h⟩ := h
          cases hx
          exact ⟨n, rfl, by omega, by omega, h _ w' G1 S O ji_range⟩
        · cases q1
      · rename_i q1; split at q1 <;> cases q1
      · exact h.elim
    | _ => exact h.elim
theorem r_rng2 {bb : Bool} {tg a b : Expr} {pp pos : Pos} (hg : Gl X "range") (hm : X.mg "range" = none) (hst : notStar a = true) (hst2 : notStar b = true) (ha : PE X a (tI F T.g W k1 pa)) (hb : PE X b (tI F T.g W k2 pb)) : PI X tg (.Call (.Name "range" pp) [a, b] [] pos) (tIt bb F T.g W (.rng2 pa pb)) := by
  refine PI.imp (pi_range2 hg hm (pa_cons ha (pa_cons hb pa_nil (starEach_of hst2 _ _)) (starEach_of hst _ _)) (by rw [starEach_of hst, starEach_of hst2]; rfl) (starEach_of hst2 _ _)) fun σ H R ⟨w0, w, ρ, s, e0, G0, h⟩ => ?_
  subst e0
  have e1 : evI F (.rng2 pa pb) ρ s = (ev F pa false ρ s).bind fun x ρ s => (ev F pb false ρ s).bind fun y ρ s => match x, y with
    | .int l, .int n => if n ≤ 100000 ∧ -100000 ≤ n ∧ l ≤ 100000 ∧ -100000 ≤ l then .ok (.lst (rangeD l (n - l).toNat)) ρ s else .bad
    | _, _ => .bad := rfl
  rw [e1] at h
  refine ⟨w0, w, ρ, s, rfl, G0, ?_⟩
  cases q : ev F pa false ρ s with
  | bad => rw [q] at h; exact h.elim
  | exc c fs ρ' s' => rw [q] at h; exact h
  | ok d ρ' s' =>
    rw [q] at h
    intro v w' G1 S O hp
    refine ⟨w0, w', ρ', s', rfl, G1, ?_⟩
    rw [Out.bind_ok] at h
    cases q2 : ev F pb false ρ' s' with
    | bad => rw [q2] at h; exact h.elim
    | exc c fs ρ' s' => rw [q2] at h; exact h
    | ok d2 ρ2 s2 =>
      rw [q2] at h
      intro v2 w2 G2 S2 O2 hp2
      rw [Out.bind_ok] at h
      have t := (hp.tr G1.ext).step S2
      have t2 := hp2.tr G2.ext
      cases d with
      | int l =>
        cases d2 with
        | int n =>
          cases t.int
          cases t2.int
          dsimp only at h
          split at h
          · rename_i xx d1 ρ1 s1 q1
            split at q1
            · rename_i hn
              cases q1
              obtain ⟨xs, hx, h⟩ := h
              cases hx
              exact ⟨l, n, rfl, by omega, h _ w2 G2 (S.trans S2) (O.trans O2) ji_range⟩
            · cases q1
          · rename_i q1; split at q1 <;> cases q1
          · exact h.elim
        | _ => exact h.elim
      | _ => cases d2 <;> exact h.elim
/-! ### the list that a comprehension fills -/
/-- the world w2 with the list D of acc, outside of all slots; behind w1 -/
structure Acc (g : G) (w0 w1 : Ws) (ρ : En) (σ : L2.St) (D : Addr) (w2 : Ws) (s2 : List Z.D) (acc : List V) (ds : List Z.D) : Prop where
  good : Good g w0 w2 ρ s2 σ
  step : Step w1 w2
  hD : w2.H D = some (.lst acc)
  rs : Rws g w2 acc ds
  fD : w2.Hf D = none
  aD : D ∉ w2.al
  n1 : w1.H D = none
theorem Acc.no0 {g : G} {D : Addr} {acc : List V} {ds : List Z.D} {s2 : List Z.D} (A : Acc g w0 w1 ρ σ D w2 s2 acc ds) (G1 : Good g w0 w1 ρ s1 σ) : w0.H D = none ∧ ∀ (i : Nat) d, ρ[i]? = some (.ow d) → σ[i]? ≠ some (some (.ref D)) := by
  refine ⟨?_, fun i d e z => ?_⟩
  · cases q0 : w0.H D with
    | none => rfl
    | some u =>
      by_cases ha : D ∈ w0.al
      · exact absurd (A.step.mem (G1.ext.mem ha)) A.aD
      · have := G1.ext.hh D u q0 ha
        rw [A.n1] at this; cases this
  · obtain ⟨a, o, e1, e2, _⟩ := G1.ow i d e
    rw [z] at e1
    cases e1
    rw [A.n1] at e2; cases e2
/-- an own thing that is in no slot is written -/
theorem Good.mut {g : G} {p : Addr} {o u : HO} (G0 : Good g w0 w ρ s σ) (hp : w.H p = some u) (hf : w.Hf p = none) (hn : p ∉ w.al) (h0 : w0.H p = none) (ho : ∀ (i : Nat) d, ρ[i]? = some (.ow d) → σ[i]? ≠ some (some (.ref p))) : Good g w0 (w.up p o) ρ s σ := by
  have ra : ∀ {o' d}, RO g w o' d → RO g (w.up p o) o' d := fun r => by
    cases r with
    | lst r => exact .lst r
    | ins c r => exact .ins c r
  refine ⟨⟨fun a u e => ?_, G0.base.sl, fun k a e => ?_, G0.base.nd⟩, ⟨G0.ext.pa, G0.ext.hf, fun a u e na => ?_, G0.ext.an⟩, G0.new, G0.len, fun i d e => ?_, fun i d e => ?_, G0.br, G0.dis, G0.xc⟩
  · obtain ⟨e1, e2⟩ := G0.base.fz a u e
    refine ⟨?_, e2⟩
    show upd _ _ _ _ = _
    rw [upd_ne (ne_of_none e hf)]; exact e1
  · obtain ⟨d, u, e1, e2, e3⟩ := G0.base.st k a e
    refine ⟨d, u, e1, ?_, ra e3⟩
    show upd _ _ _ _ = _
    rw [upd_ne (fun z => hn (by rw [← z]; exact List.mem_of_getElem? e))]; exact e2
  · show upd _ _ _ _ = _
    rw [upd_ne (ne_of_none e h0)]; exact G0.ext.hh a u e na
  · exact G0.im i d e
  · obtain ⟨a, u, e1, e2, e3, e4, e5, e6⟩ := G0.ow i d e
    have ne : a ≠ p := fun z => ho i d e (by rw [e1, z])
    exact ⟨a, u, e1, by show upd _ _ _ _ = _; rw [upd_ne ne]; exact e2, ra e3, e4, e5, e6⟩
/-- one more item -/
theorem Acc.push {g : G} {D : Addr} {acc : List V} {ds : List Z.D} {s2 s4 : List Z.D} {w4 : Ws} {y : V} {d : Z.D} (A : Acc g w0 w1 ρ σ D w2 s2 acc ds) (G1 : Good g w0 w1 ρ s1 σ) (B : Base g w4 s4) (S : Step w2 w4) (fr : Fr w2 w4) (r : Rw g w4 y d) :
    w4.H D = some (.lst acc) ∧ Acc g w0 w1 ρ σ D (w4.up D (.lst (acc ++ [y]))) s4 (acc ++ [y]) (ds ++ [d]) := by
  have h4 : w4.H D = some (.lst acc) := S.hh _ _ A.hD A.aD
  have f4 : w4.Hf D = none := fr D _ A.fD A.hD
  have a4 : D ∉ w4.al := fun hm => by
    have := S.an D hm A.aD
    rw [A.hD] at this; cases this
  obtain ⟨h0, ho⟩ := A.no0 G1
  refine ⟨h4, (A.good.after B S fr).mut h4 f4 a4 h0 ho, ?_, upd_same, ?_, f4, a4, A.n1⟩
  · have S2 := A.step.trans S
    refine ⟨S2.pa, S2.hf, fun a u e na => ?_, S2.an⟩
    show upd _ _ _ _ = _
    rw [upd_ne (ne_of_none e A.n1)]; exact S2.hh a u e na
  · exact (S.rs A.rs).append (.one r)
end
end Z

namespace Z
open PySem PySem.Spec PyProof.Rows L2
/-! a comprehension that an exception leaves -/
/-- behind the block: as compPost says, but an exception goes on from the block's own env -/
def cpX (M : Model) (A : Around) (E : Value → Shared → Prop) (u : Option (Value → Sem Unit)) (Q : Value → Shared → Prop) (acc : Value) (ce : PySem.Env) : Result → Shared → Prop
  | .ok f, s1 => compPost M A E u Q acc ce.locals (.ok f) s1
  | .error x, s1 => ∃ m, s1.heap.Ns ce.locals m ∧ ∀ g, Heap.SameBut ce.locals s1.heap g →
      wpAny M A (passOn "comprehension.variables-let-go" x ce : Sem Value) (fun _ _ => False) E { s1 with heap := g }
def blkVars (scope : Scope) : List (Str × NameKind) := scope.names.filter fun x => (x.2 == .local || x.2 == .cell) && x.1 != (".0" : Str)
theorem blkVars_loc {scope : Scope} {env ce : PySem.Env} (hn : ∀ x ∈ scope.names, x.2 = .local → scope.names.lookup x.1 = some .local) (hc : ce.scope = relabel scope env) :
    ∀ x ∈ blkVars scope, x.2 = .local → ce.kindOf x.1 = some .local := fun x hx e => by
  unfold PySem.Env.kindOf
  rw [hc]
  exact lookup_relabel_local (hn x (List.mem_filter.mp hx).1 e)
section
variable {M : Model} {A : Around} {E : Value → Shared → Prop} {s : Shared} {env : PySem.Env} {u : Option (Value → Sem Unit)} {Q : Value → Shared → Prop}
theorem comp_x {e : Expr} {scope : Scope} {pos : Pos} {mk fst : Sem Value} {c1 : Comprehension} {cs : List Comprehension} {cl : List (Str × Addr)}
    (h1 : clausesOf e = c1 :: cs) (h2 : ∀ x, foldedSetIterable c1.iter env x = pure x) (h3 : closureFor scope env = pure cl) (h4 : scope.kind = .function)
    (h5 : ∀ x ∈ scope.names, x.2 = .local → scope.names.lookup x.1 = some .local)
    (go : wpAny M A fst (fun x t1 => wpAny M A (pyIter x) (fun it t2 => wpAny M A mk (fun acc t3 =>
        wpAny M A (newFunctionEnv scope env.globals cl [] env.qual none .none (some env))
          (fun ce t4 => codeAny M A (.compStart e 0 it acc { ce with scope := relabel scope env }) (cpX M A E u Q acc { ce with scope := relabel scope env }) t4) E t3) E t2) E t1) E s) :
    wpAny M A (comprehension e scope env pos mk false fst u) Q E s := by
  unfold comprehension
  rw [h3, h1]
  refine wpAny_bind (thn go fun x t1 g1 => ?_)
  refine wpAny_bind (wpAny_standAt (wpAny_bind (wpAny_of_eq (h2 x) (wpAny_bind (wpAny_holding (thn g1 fun it t2 g2 => ?_))))))
  refine wpAny_standIf (wpAny_bind (thn g2 fun acc t3 g3 => ?_))
  refine wpAny_bind (wpAny_pure (wpAny_bind (thn g3 fun ce t4 g4 => ?_)))
  dsimp only
  generalize hce : ({ ce with scope := relabel scope env } : PySem.Env) = c at g4
  have hc : c.scope = relabel scope env := by rw [← hce]
  have hl : c.locals = ce.locals := by rw [← hce]
  have hk : c.scope.kind = .function := by rw [hc]; exact h4
  have v0 : ∀ x ∈ (blkVars scope).reverse, x.2 = .local → c.kindOf x.1 = some .local := fun x hx => blkVars_loc h5 hc x (List.mem_reverse.mp hx)
  have v1 : ∀ x ∈ (blkVars scope).reverse.drop 1 ++ (blkVars scope).reverse.take 1, x.2 = .local → c.kindOf x.1 = some .local := fun x hx =>
    v0 x ((List.mem_append.mp hx).elim (fun z => List.mem_of_mem_drop z) fun z => List.mem_of_mem_take z)
  have ec : ({ ce with scope := { scope with names := scope.names.map fun (n, k) => if (k == .free && env.scope.kind == .function && env.kindOf n == some .cell) then (n, .cell) else (n, k) } } : PySem.Env) = c := hce
  rw [ec]
  rw [show ce.locals = c.locals from hl.symm]
  refine wpAny_holding (wpAny_bind (wpAny_attempt (wpAny_holding (wpAny_run (codeAny_mono g4 fun r t5 g5 => ?_)))))
  cases r with
  | error x =>
    obtain ⟨m, hn, g6⟩ := g5
    refine wpAny_bind (wpAny_holding (wpAny_comp_letGo (cenv := c) hk _ t5 m v0 hn fun g m' _ sb => ?_))
    exact thn (g6 g sb) fun _ _ z => z.elim
  | ok f =>
    cases u with
    | none =>
      obtain ⟨m, hn, g6⟩ := g5
      exact wpAny_bind (wpAny_holding (wpAny_comp_letGo (cenv := c) hk _ t5 m v0 hn fun g m' _ sb => wpAny_pure (g6 g sb)))
    | some k =>
      refine wpAny_bind (wpAny_rule (wpAny_bind (wpAny_holding (thn g5 fun _ t6 g6 => ?_))))
      obtain ⟨m, hn, g7⟩ := g6
      exact wpAny_bind (wpAny_comp_letGo (cenv := c) hk _ t6 m v1 hn fun g m' _ sb => wpAny_pure (g7 g sb))
end
/-! the exception's way -/
theorem ff_but {B h g : Heap} {C : Addr} (sb : Heap.SameBut C h g) : ∀ {l : List PySem.Env}, h.FunFrames B l → C ∉ frs l → g.FunFrames B l
  | [], _, _ => trivial
  | e :: l, ⟨hk, ⟨L, o, hf, hn, ho, hd⟩, hr⟩, hC => by
    unfold frs at hC
    rw [List.filterMap_cons, hf] at hC
    have hL : L ≠ C := fun z => hC (by rw [z]; exact List.mem_cons_self)
    exact ⟨hk, ⟨L, o, hf, hn, (sb.2 L hL).trans ho, hd⟩, ff_but sb hr fun z => hC (List.mem_cons_of_mem _ z)⟩
theorem note_frame {x : Value} {a b : PySem.Env} (h : a.frame = b.frame) : noteFrame x a = noteFrame x b := by
  unfold noteFrame PySem.frameOf
  rw [h]
/-- noted elsewhere: a new entry -/
theorem looks_oth {M : Model} {A : Around} {E : Value → Shared → Prop} {s : Shared} {Z : Obj → Prop} {B : Heap} {e0 : PySem.Env} {l : List PySem.Env} {L K a : Addr} {Q : Unit → Shared → Prop} (hZ : HandSPX.Steady Z) (hfr : A.frames = some (e0 :: l)) (hf : e0.frame = some L) (hK : K ≠ L)
    (hh : HandSPX.HeldZ B (e0 :: l) a Z K s.heap) (hQ : ∀ g, HandSPX.HeldZ B (e0 :: l) a Z L g → s.heap.UpToSlots g → Q () { s with heap := g }) : wpAny M A (noteFrame (.ref a) e0) Q E s := by
  obtain ⟨k1, k2, k3, oe, vs, T, oT, ts, ha, hz, hd, h1, hB, hTa, hT, hdT, h3⟩ := hh
  have e1 : (Value.ref T != Value.none) = true := by simp
  have e2 : ¬ ((rawInt (K : Int) == rawInt (L : Int)) = true) := by
    simp [rawInt]
    exact fun z => hK (Int.ofNat.inj z)
  have ot : ∀ b, b ≠ T → (s.heap.update T (Obj.mapFields (·.setIfInBounds 3 Value.none))).get? b = s.heap.get? b := fun b z => Heap.get?_update_other _ _ z.symm
  have nr : ∀ b o, s.heap.get? b = some o → (∀ vs, o.data ≠ .fields vs) → b ≠ T := fun b o q n z => by
    rw [z, hT] at q; cases q; exact n ts hdT
  unfold noteFrame
  simp only [hf]
  refine wpAny_bind (wpAny_field ha hd h1 ?_)
  rw [if_pos e1]
  refine wpAny_bind (wpAny_field hT hdT h3 ?_)
  rw [if_neg e2]
  refine wpAny_bind (wpAny_setField hT hdT (Array.getElem?_eq_some_iff.mp h3).1 ?_)
  refine HandSPX.wpAny_entryZ hZ hfr (k3.of_keeps fun b o q n => ⟨o, (ot b (nr b o q n)).trans q, rfl⟩) hf ((ot a hTa.symm).trans ha)
    (fun b o q => (ot b fun z => by rw [z, hB] at q; cases q).trans (k1 b o q)) k2 hd (Array.getElem?_eq_some_iff.mp h1).1 hz fun g ⟨x1, x2, x3, x4⟩ => ?_
  exact hQ g ⟨x1, k2, x2, x3⟩ fun b o q n => x4 b o ((ot b (nr b o q n)).trans q) n
theorem blk_lands {X : Cx} {W : WX} {pins : List (Addr × Obj)} {σ : L2.St} {H3 : Hp} {s3 : Shared} {scope : Scope} {ce : PySem.Env} {fp : List Addr} {xe : Value → Shared → Prop} {K : Addr} {x : Value} {s' : Shared} {use : Option (Value → Sem Unit)} {Qf : Value → Shared → Prop} {acc : Value}
    (tp : Top X W) (I3 : Inv X pins σ H3 s3) (f3 : ∀ b ∈ fp, FpOk X pins H3 b ∧ b < s3.heap.objs.size) (cL : ce.locals = s3.heap.objs.size) (cF : ce.frame = X.env.frame)
    (h : XH ((X.blk s3 H3 scope ce fp).wish xe) (fun c d _ H => W c d σ H) K x s') :
    notedBy (model X.prog X.w) X.A ce (fun y t => cpX (model X.prog X.w) X.A X.xe use Qf acc ce (.error y) t) x s' := by
  obtain ⟨e0, l, L, t1, t2, t3, tk⟩ := tp.at_
  obtain ⟨a, B, sI, pb, σb, H, cls, d, rfl, I, nb, up, sky, na, os, ag, w⟩ := h
  have hfr : X.A.frames = some (e0 :: l) := by rw [← t1]; exact I3.ok.frames
  obtain ⟨m, hn, _⟩ := I.loc
  have hn : sI.heap.Ns ce.locals m := hn
  have nC : H ce.locals = none := I.free
  have J0 : Inv X pins σ H sI := I3.call' (ch := fp) I.os I.base I.hok I.bare fun b hb => by
    obtain ⟨z1, z2, z3, z4, z5, z6⟩ := (f3 b hb).1
    exact ⟨z4, z2, z5, z6⟩
  generalize hC : ce.locals = C at hn nC cL
  have fC : FpOk X pins H C := by rw [cL]; exact I3.fpOk (Nat.le_refl _) (by rw [← cL]; exact nC)
  have cfr : C ∉ frs X.stack := fun z => by
    obtain ⟨_, o, e, _⟩ := I3.stack.mem z
    exact absurd (Heap.lt_size e) (by rw [cL]; exact Nat.lt_irrefl _)
  obtain ⟨B', b1, b2⟩ := restrict B fun b => b != C
  obtain ⟨G, g1, g2⟩ := restrict sI.heap fun b => b != C
  have b1' : ∀ b, b ≠ C → B'.get? b = B.get? b := fun b z => b1 b (by simpa using z)
  have b2' : B'.get? C = none := b2 C (by simp)
  have bB : ∀ b, B.get? b = none → B'.get? b = none := fun b e => by
    by_cases z : b = C
    · rw [z]; exact b2'
    · rw [b1' b z]; exact e
  have g1' : ∀ b, b ≠ C → G.get? b = sI.heap.get? b := fun b z => g1 b (by simpa using z)
  have g2' : G.get? C = none := g2 C (by simp)
  obtain ⟨f0, f1, f2, f4, f5, f6⟩ := fC
  have J : Inv X pins σ H { sI with heap := G } := J0.turned (t' := sI.toks) (fun b o z e => (g1' b z).trans e) f0 f1 f4 f5 f6
  have nb : ∀ b o, sI.heap.get? b = some o → b ∉ frs X.stack → B.get? b = some o := nb
  have fin : ∀ h1, HandSPX.HeldZ B (e0 :: l) a (Zc cls d) L h1 → s'.heap.UpToSlots h1 → cpX (model X.prog X.w) X.A X.xe use Qf acc ce (.error (.ref a)) { s' with heap := h1 } := fun h1 hh up1 => by
    obtain ⟨k1, k2, k3, oe, vs, T, oT, ts, ha, hz, hd, hv, hB, hTa, hT, hdT, hts⟩ := hh
    obtain ⟨oc, es, ep, ho, hdc, hr⟩ := hn
    have hoc : h1.get? C = some oc := k1 C oc (nb C oc ho cfr)
    have hn1 : h1.Ns C m := ⟨oc, es, ep, hoc, hdc, hr⟩
    have aC : a ≠ C := fun z => by rw [z, hoc] at ha; cases ha; rw [hdc] at hd; cases hd
    have TC : T ≠ C := fun z => by rw [z, hoc] at hT; cases hT; rw [hdc] at hdT; cases hdT
    refine ⟨m, by rw [hC]; exact hn1, fun g sb => ?_⟩
    rw [hC] at sb
    have hh' : HandSPX.HeldZ B' (e0 :: l) a (Zc cls d) L g := by
      refine ⟨fun b o q => ?_, bB a k2, funFrames_none (ff_but sb k3 (by rw [← t1]; exact cfr)) fun b hb => bB b (k3.mem hb).1, oe, vs, T, oT, ts, (sb.2 a aC).trans ha, hz, hd, hv, bB T hB, hTa, (sb.2 T TC).trans hT, hdT, hts⟩
      have z : b ≠ C := fun z => by rw [z, b2'] at q; cases q
      rw [b1' b z] at q
      exact (sb.2 b z).trans (k1 b o q)
    unfold PySem.passOn
    refine wpAny_bind (wpAny_field ((sb.2 a aC).trans ha) hd hv ?_)
    rw [if_neg (show ¬ ((Value.ref T == Value.none) = true) from by simp)]
    rw [cF, t3]
    refine wpAny_bind (HandSPX.setFlight_onZ hh' fun g2 hh2 up2 => wpAny_throw (tk _ _ ?_))
    refine ⟨a, B', { sI with heap := G }, pins, σ, H, cls, d, rfl, J, fun b o q n => ?_, fun b o q n => ?_, .inr (.inr (by rw [t1]; exact hh2)), na, os, ag, w⟩
    · have q : G.get? b = some o := q
      have z : b ≠ C := fun z => by rw [z, g2'] at q; cases q
      rw [g1' b z] at q
      rw [b1' b z]
      exact nb b o q n
    · have q : G.get? b = some o := q
      have z : b ≠ C := fun z => by rw [z, g2'] at q; cases q
      rw [g1' b z] at q
      obtain ⟨sl, q1⟩ := (up.trans up1) b o q n
      obtain ⟨sl2, q2⟩ := up2 b { o with slots := sl } ((sb.2 b z).trans q1) n
      exact ⟨sl2, q2⟩
  have sky : Sky B (e0 :: l) a (Zc cls d) K s'.heap := by rw [← t1]; exact sky
  show wpAny (model X.prog X.w) X.A (noteFrame (.ref a) ce) _ _ s'
  rw [note_frame (b := e0) (by rw [cF, t3, t2])]
  rcases sky with ⟨k1, k2, k3, oe, vs, ha, hz, hd, hv⟩ | fl | hh
  · exact HandSPX.look_newZ Zc.steady hfr k3 t2 ha k1 k2 hd hv hz fin
  · exact HandSPX.looks_onZ Zc.steady hfr t2 fl fin
  · by_cases z : K = L
    · subst z
      exact HandSPX.againZ t2 hh.2.2.2 (fin s'.heap hh (Heap.UpToSlots.refl _))
    · exact looks_oth Zc.steady hfr t2 z hh fin

/-! the comprehension -/
abbrev bx (X : Cx) (t : Shared) (K : Hp) (scope : Scope) (cl : List (Str × Addr)) (C : Addr) (fp : List Addr) (xe : Value → Shared → Prop) : Cx := (X.blk t K scope (compEnvC scope cl C X.env) fp).wish xe
def tLcX (wi : TI) (g : TG) (tt : XK → TT) (te : XK → TE) (W : WX) (vs : List Nat) : TE := fun σ H Q => tLc wi g (tt fun c d K => W c d σ K) (te fun c d K => W c d σ K) vs σ H Q
section
variable {X : Cx}
theorem lc_x {pins : List (Addr × Obj)} {s0 : Shared} {σ : L2.St} {H0 : Hp} {Q : VK} {el tg src : Expr} {cs : List Expr} {scope : Scope} {own : List (Str × Nat)} {p1 p2 : Pos} {wi : TI} {g : TG} {tt : XK → TT} {te : XK → TE} {W : WX} {use : Option (Value → Sem Unit)} {Qf : Value → Shared → Prop}
    (hc : X.calm = true) (nd : X.N.Nodup) (I0 : Inv X pins σ H0 s0) (tp : Top X W) (hi : PI X tg src wi) (bo : BlkOk X.N X.env.scope scope own)
    (hg : ∀ t K cl C fp xe, PG (bx X t K scope cl C fp xe) tg g)
    (ht : ∀ t K cl C fp xe E, BlkX (bx X t K scope cl C fp xe) E → PTs (bx X t K scope cl C fp xe) cs (tt E))
    (he : ∀ t K cl C fp xe E, BlkX (bx X t K scope cl C fp xe) E → PE (bx X t K scope cl C fp xe) el (te E)) (hs : ∀ x, foldedSetIterable src X.env x = pure x)
    (h : tLcX wi g tt te W (own.map (·.2)) σ H0 Q)
    (hR : ∀ D C t m K, Inv X pins σ K t → Q (.ref D) K → t.heap.Ns C m → FpOk X pins K C → compPost (model X.prog X.w) X.A X.xe use Qf (.ref D) C (.ok .next) t) :
    wpAny (model X.prog X.w) X.A (comprehension (.ListComp el [⟨tg, src, cs, 0⟩] scope p1) scope X.env p2 (newList []) false (eval src X.env) use) Qf X.xe s0 := by
  have caps : ∀ y ∈ scope.names, y.2 = .free → ∃ c, X.env.cells.lookup y.1 = some c := fun y hy e =>
    I0.ok.has _ (bo.free y hy e)
  refine comp_x (u := use) rfl hs (closure_ok caps) bo.kind (fun y hy e => by rw [bo.uniq y hy, e]) ?_
  refine thn (hi.run pins s0 σ H0 _ I0 h) fun xv t1 r1 => thn r1 fun iv t2 ⟨it, fp, tn, J, H2, e0, I2, T, st2, f2, q⟩ => ?_
  subst e0
  refine wpAny_newObj_type (newEnv_comp ?_) (by show 0 ≤ sizeLine; decide)
  generalize eD : t2.heap.objs.size = D
  have hD : H2 D = none := I2.hok.fresh (Nat.le_of_eq eD)
  obtain ⟨Wt, ⟨m0, w0⟩, turn⟩ := q D hD
  generalize e3 : ({ t2 with heap := t2.heap.push { cls := .type "list", data := .seq ([] : List Value).toArray } } : Shared) = t3
  have h3 : t3.heap = t2.heap.push { cls := .type "list", data := .seq ([] : List Value).toArray } := by rw [← e3]
  have up : ∀ b o, t2.heap.get? b = some o → t3.heap.get? b = some o := fun b o z => by rw [h3]; exact Heap.get?_push_of_some _ z
  have I3 : Inv X pins σ (upd H2 D (.lst [])) t3 := by
    rw [← e3]
    refine I2.laid (t' := t2.toks) (fun b o z => Heap.get?_push_of_some _ z) (Nat.le_of_eq eD) ⟨Nat.zero_le _, [], 0, .nil, ?_⟩
    rw [← eD]
    exact Heap.get?_push_size _ rfl
  have f3 : ∀ b ∈ fp, FpOk X pins (upd H2 D (.lst [])) b ∧ b < t3.heap.objs.size := fun b hb => by
    obtain ⟨o, z, _⟩ := T.obj _ _ st2 b hb
    have lt := Heap.lt_size z
    obtain ⟨z1, z2⟩ := f2 b hb
    exact ⟨⟨by rw [upd_ne (by rw [← eD]; exact Nat.ne_of_lt lt)]; exact z1, z2⟩, Heap.lt_size (up b o z)⟩
  have st3 : tn 0 t3.heap := T.keep _ _ _ st2 fun b _ o z => up b o z
  have I4 := block_start I3 bo nd f3
  generalize ecl : cellsFrom (t3.heap.objs.size + 1) scope.names (cloFrom X.env.cells scope.names []) = cl at I4
  generalize eH : upd H2 D (.lst []) = H3 at I3 I4 w0 f3
  have ls : (compEnvC scope cl t3.heap.objs.size X.env).locals = t3.heap.objs.size := rfl
  have lf : (compEnvC scope cl t3.heap.objs.size X.env).frame = X.env.frame := rfl
  generalize exe : (notedBy (model X.prog X.w) X.A (compEnvC scope cl t3.heap.objs.size X.env) fun y t => cpX (model X.prog X.w) X.A X.xe use Qf (.ref D) (compEnvC scope cl t3.heap.objs.size X.env) (.error y) t) = xe
  have bk : BlkX (bx X t3 H3 scope cl t3.heap.objs.size fp xe) (fun c d K => W c d σ K) := by
    obtain ⟨e1, l, L, z1, z2, z3, z4⟩ := tp.at_
    have ld : ∀ K u s', XH (bx X t3 H3 scope cl t3.heap.objs.size fp xe) (WK fun c d K => W c d σ K) K u s' → xe u s' := fun K u s' z => by
      have := blk_lands (use := use) (Qf := Qf) (acc := .ref D) tp I3 f3 ls lf z
      rw [← exe]
      exact this
    exact ⟨fun u s' z => ld _ u s' z, ⟨e1, l, L, z1, z2, z3, fun u s' z => ld L u s' z⟩⟩
  have pg : PG ((X.blk t3 H3 scope (compEnvC scope cl t3.heap.objs.size X.env) fp).wish xe) tg g := hg t3 H3 cl t3.heap.objs.size fp xe
  have pt : PTs ((X.blk t3 H3 scope (compEnvC scope cl t3.heap.objs.size X.env) fp).wish xe) cs (tt fun c d K => W c d σ K) := ht t3 H3 cl t3.heap.objs.size fp xe _ bk
  have pe : PE ((X.blk t3 H3 scope (compEnvC scope cl t3.heap.objs.size X.env) fp).wish xe) el (te fun c d K => W c d σ K) := he t3 H3 cl t3.heap.objs.size fp xe _ bk
  show codeAny _ _ (.compStart (.ListComp el [⟨tg, src, cs, 0⟩] scope p1) 0 (.ref it) (.ref D) (compEnvC scope cl t3.heap.objs.size X.env)) (cpX (model X.prog X.w) X.A X.xe use Qf (.ref D) (compEnvC scope cl t3.heap.objs.size X.env)) _
  generalize ece : compEnvC scope cl t3.heap.objs.size X.env = ce at I4 pg pt pe exe ls
  generalize e4 : ({ t3 with heap := pushCells (t3.heap.push { cls := .type "dict", data := .dict #[] }) scope.names } : Shared) = t4 at I4 ⊢
  have st4 : tn 0 t4.heap := T.keep _ _ _ st3 fun b _ o z => by rw [← e4]; exact pushCells_keeps _ _ _ _ (Heap.get?_push_of_some _ z)
  generalize eX : (X.blk t3 H3 scope ce fp).wish xe = B at pg pt pe
  have I4 : Inv B [] (wipe σ (own.map (·.2))) H3 t4 := by rw [← eX]; exact I4.wish xe
  have b1 : B.prog = X.prog := by rw [← eX]
  have b2 : B.w = X.w := by rw [← eX]
  have b3 : B.K = X.K := by rw [← eX]
  have b4 : B.calm = true := by rw [← eX]; exact hc
  have b5 : B.A = X.A := by rw [← eX]
  have b6 : B.xe = xe := by rw [← eX]
  have fpB : ∀ {σ' : L2.St} {K : Hp} {t : Shared}, Inv B [] σ' K t → (∀ b ∈ fp, K b = none) → ∀ b ∈ fp, FpOk B [] K b := by
    rw [← eX]
    exact fun I n b hb => ⟨n b hb, (I.ok.exf b hb).1, I.ok.exfs b hb, .inl hb, (I.ok.exf b hb).2, fun p hp => absurd (show p ∈ ([] : List (Addr × Obj)) ++ [] from hp) (by simp)⟩
  have out : ∀ {σ' : L2.St} {K : Hp} {t : Shared}, Inv B [] σ' K t → Inv X pins σ K t ∧ (∃ m, t.heap.Ns t3.heap.objs.size m) ∧ K t3.heap.objs.size = none := by
    rw [← eX]
    intro σ' K t I
    refine ⟨I3.call' (ch := fp) I.os I.base I.hok I.bare fun b hb => ?_, ?_, ?_⟩
    · obtain ⟨z1, z2, z3, z4, z5, z6⟩ := (f3 b hb).1
      exact ⟨z4, z2, z5, z6⟩
    · obtain ⟨m, z, _⟩ := I.loc
      exact ⟨m, by rw [← ls]; exact z⟩
    · rw [← ls]; exact I.free
  have loop : codeAny (model B.prog B.w) B.A (.compLoop (.ListComp el [⟨tg, src, cs, 0⟩] scope p1) 0 (.ref it) (.ref D) ce) (cpX (model X.prog X.w) X.A X.xe use Qf (.ref D) ce) t4 := by
    have ee : B.env = ce := by rw [← eX]
    refine compLoop_any (fun n t => ∃ i K, Inv B [] (wipe σ (own.map (·.2))) K t ∧ tn i t.heap ∧ (∀ b ∈ fp, K b = none) ∧ Wt i n K) ?_ m0 ⟨0, H3, I4, st4, fun b hb => (f3 b hb).1.1, w0⟩
    rintro n t5 ⟨i, H5, I5, st5, n5, w5⟩
    have xx : (notedBy (model B.prog B.w) B.A ce fun e t => cpX (model X.prog X.w) X.A X.xe use Qf (.ref D) ce (.error e) t) = B.xe := by rw [b1, b2, b5, b6]; exact exe
    rw [xx]
    have em : model X.prog X.w = model B.prog B.w := by rw [b1, b2]
    rcases turn i n H5 w5 with ⟨stop, qq⟩ | ⟨go, Nx, hNx, step⟩
    · have td := T.done B b1 b2 b3 b4 i [] t5 _ H5 B.xe I5 (fpB I5 n5) st5 stop
      rw [em] at td
      refine thn td fun r t6 ⟨hr, I6⟩ => ?_
      subst hr
      obtain ⟨I7, ⟨m, hn⟩, nC⟩ := out I6
      have z := hR D t3.heap.objs.size t6 m H5 I7 qq hn (I3.fpOk (Nat.le_refl _) nC)
      show compPost (model X.prog X.w) X.A X.xe use Qf (.ref D) ce.locals (.ok .next) t6
      rw [ls]; exact z
    · have ti := T.item B b1 b2 b3 b4 i [] t5 _ H5 B.xe I5 (fpB I5 n5) st5 go
      rw [em] at ti
      refine thn ti fun r t6 ⟨u, hr, h6⟩ => ?_
      subst hr
      refine thn h6 fun _ t7 ⟨x, H7, I7, r7, y7, st7, n7⟩ => ?_
      have I7p := I7.pinned (fpB I7 n7) (T.obj _ _ st7)
      rw [← ee]
      refine thn (pg.run _ t7 _ H7 x u _ I7p r7 (step x H7 y7)) fun _ t8 ⟨σ8, H8, I8, hw, q8⟩ => ?_
      refine thn (pt.run _ t8 σ8 H8 _ I8 q8) fun b t9 ⟨H9, I9, q9⟩ => ?_
      have last : ∀ {t : Shared} {K : Hp}, Inv B ([] ++ pinsAt fp t7.heap) σ8 K t → Nx K → ∃ m, m < n ∧ ∃ i K, Inv B [] (wipe σ (own.map (·.2))) K t ∧ tn i t.heap ∧ (∀ b ∈ fp, K b = none) ∧ Wt i m K := fun {t K} Iz nx => by
        obtain ⟨m, hm, wz⟩ := hNx K nx
        have kp : ∀ b ∈ fp, ∀ o, t7.heap.get? b = some o → t.heap.get? b = some o ∧ K b = none := fun b hb o z => by
          obtain ⟨y1, y2, _⟩ := Iz.pin (b, o) (List.mem_append_right _ (List.mem_append_right _ (mem_pinsAt hb z)))
          exact ⟨y1, y2⟩
        refine ⟨m, hm, i + 1, K, (Iz.unpinned (pins := [])).weak ?_ fun j v z => ?_, T.keep _ _ _ st7 fun b hb o z => (kp b hb o z).1, fun b hb => ?_, wz⟩
        · rw [← hw, wipe_length]
        · rw [← hw] at z
          exact (wipe_some z).1
        · obtain ⟨o, z, _⟩ := T.obj _ _ st7 b hb
          exact (kp b hb o z).2
      cases b with
      | false =>
        rw [if_neg (by decide)] at q9 ⊢
        exact last I9 q9
      | true =>
        rw [if_pos rfl] at q9 ⊢
        refine thn (pe.run _ t9 σ8 H9 _ I9 q9) fun z t10 ⟨yv, H10, I10, r10, acc, hD10, hz10, nx⟩ => ?_
        exact app_ok (X := B) I10 hD10 hz10 r10 fun t11 I11 => last I11 nx
  rw [b1, b2, b5] at loop
  exact codeAny_compStart_list loop (T.self X.A 0 _ _ _ st4 loop)
/-- a comprehension's value -/
theorem pe_lcX {el tg src : Expr} {cs : List Expr} {scope : Scope} {own : List (Str × Nat)} {pos : Pos} {wi : TI} {g : TG} {tt : XK → TT} {te : XK → TE} {W : WX} (hc : X.calm = true) (nd : X.N.Nodup) (tp : Top X W) (hi : PI X tg src wi) (bo : BlkOk X.N X.env.scope scope own)
    (hg : ∀ t K cl C fp xe, PG (bx X t K scope cl C fp xe) tg g)
    (ht : ∀ t K cl C fp xe E, BlkX (bx X t K scope cl C fp xe) E → PTs (bx X t K scope cl C fp xe) cs (tt E))
    (he : ∀ t K cl C fp xe E, BlkX (bx X t K scope cl C fp xe) E → PE (bx X t K scope cl C fp xe) el (te E)) (hs : ∀ x, foldedSetIterable src X.env x = pure x) :
    PE X (.ListComp el [⟨tg, src, cs, 0⟩] scope pos) (tLcX wi g tt te W (own.map (·.2))) := ⟨fun pins s σ H Q I h => by
  rw [eval_ListComp]
  refine lc_x hc nd I tp hi bo hg ht he hs h fun D C t m K Iz q hn ⟨f0, f1, f2, f3, f4, f5⟩ => ⟨m, hn, fun gg sb => ?_⟩
  exact ⟨.ref D, K, Iz.turned (t' := t.toks) (fun b o hb e => (sb.2 b hb).trans e) f0 f1 f3 f4 f5, rfl, q⟩⟩
/-- name = [..] -/
theorem ps_setLcX {i : Nat} {y : Str} {py : Pos} {el tg src : Expr} {cs : List Expr} {scope : Scope} {own : List (Str × Nat)} {pos sp : Pos} {wi : TI} {g : TG} {tt : XK → TT} {te : XK → TE} {W : WX} (hc : X.calm = true) (nd : X.N.Nodup) (tp : Top X W) (hy : X.N[i]? = some y) (hl : X.env.scope.names.lookup y = some .local)
    (sw : swapsWith (.ListComp el [⟨tg, src, cs, 0⟩] scope pos) (some (.Name y py)) sp.line X.env = pure true) (hi : PI X tg src wi) (bo : BlkOk X.N X.env.scope scope own)
    (hg : ∀ t K cl C fp xe, PG (bx X t K scope cl C fp xe) tg g)
    (ht : ∀ t K cl C fp xe E, BlkX (bx X t K scope cl C fp xe) E → PTs (bx X t K scope cl C fp xe) cs (tt E))
    (he : ∀ t K cl C fp xe E, BlkX (bx X t K scope cl C fp xe) E → PE (bx X t K scope cl C fp xe) el (te E)) (hs : ∀ x, foldedSetIterable src X.env x = pure x) :
    PS X (.Assign [.Name y py] (.ListComp el [⟨tg, src, cs, 0⟩] scope pos) sp) (tAsg (tLcX wi g tt te W (own.map (·.2))) (gName i)) := ⟨fun pins s σ H D I h => by
  rw [exec_Assign_Name_used _ _ _ _ sw]
  refine wpAny_bind (wpAny_standAt (wpAny_bind ?_))
  show wpAny _ X.A (do let _ ← comprehension (.ListComp el [⟨tg, src, cs, 0⟩] scope pos) scope X.env (firstIterPos [⟨tg, src, cs, 0⟩] pos) (newList []) false (eval src X.env) (some (assign (.Name y py) X.env))) _ _ s
  have h' : tLcX wi g tt te W (own.map (·.2)) σ H (fun x K => gName i x σ K D.nx) := h
  refine wpAny_bind (thn (lc_x (Qf := fun _ t => SP X pins D .next t) hc nd I tp hi bo hg ht he hs h' fun L C t m K Iz q hn ⟨f0, f1, f2, f3, f4, f5⟩ => ?_) fun _ _ z => wpAny_pure (wpAny_pure z))
  show wpAny _ _ (assign (.Name y py) X.env (.ref L)) _ _ _
  refine wpAny_assign_Name (store_ok2 (v := V.ref L) Iz nd hy (.inl hl) rfl (fun t2 I2 ⟨a, sb, ha⟩ => ?_) (.inr hl))
  have aC : C ≠ a := fun z => by
    rcases ha with e | e
    · exact f1 (z.trans e)
    · exact f4 y a e z.symm
  refine ⟨m, hn.sameBut sb aC, fun g3 sb3 => ⟨_, K, I2.turned (t' := t2.toks) (fun b o hb e => (sb3.2 b hb).trans e) f0 f1 f3 f4 f5, q⟩⟩⟩
end
end Z

namespace Z
open PySem PySem.Spec PyProof.Rows L2
abbrev W0 : WX := fun _ _ _ _ => False
section
variable {F : Fs} {T : Tb} {N : List Str} {sc : Scope} {ow : Str → Bool} {W : WX} {X : Cx} {p q pa pb pc : Ex} {w0 w w1 w2 w' : Ws} {ρ ρ1 : En} {s s1 s' : List D} {σ : L2.St} {H : Hp} {Q : VK} {k1 k2 k3 : Kd} {kk : Kd} {ms : List Bool} {ps : List Ex}
def tO (F : Fs) (g : G) (W : WX) (p : Option Ex) : TT := fun σ H Q => ∃ w0 w ρ s, w.H = H ∧ Good g w0 w ρ s σ ∧ GoT g W w0 w ρ σ (evO F p ρ s) Q
theorem r_none {sc : Scope} : PTs X [] (tO F T.g W none) := ⟨fun pins sh σ H Q I ⟨w0, w, ρ, s, e, G0, h⟩ => pts_nil.run pins sh σ H Q I (by
  subst e
  obtain ⟨b, e, z⟩ := h
  cases e
  exact z w G0 (Step.refl _) (Os.refl _))⟩
theorem r_some {c : Expr} (h : PT X c (tT F T.g W p)) : PTs X [c] (tO F T.g W (some p)) := ⟨fun pins sh σ H Q I hw => (pts_one h).run pins sh σ H Q I hw⟩
/-- what a comprehension's turn makes -/
def lcF (F : Fs) (ρb : En) (tg : Tg) (co : Option Ex) (el : Ex) : D → List D → OutL := fun x s => match bindT tg x ρb with
  | some ρ1 => match evO F co ρ1 s with
    | .ok (.bl true) ρ2 s => match ev F el false ρ2 s with
      | .ok d _ s => .ok [d] [] s
      | .exc c fs _ s => .exc c fs [] s
      | .bad => .bad
    | .ok (.bl false) _ s => .ok [] [] s
    | .exc c fs _ s => .exc c fs [] s
    | _ => .bad
  | none => .bad
theorem lcF_len {F : Fs} {ρb : En} {tg : Tg} {co : Option Ex} {el : Ex} {x : D} {s s' : List D} {ds : List D} {ρ' : En} (h : lcF F ρb tg co el x s = .ok ds ρ' s') : ds.length ≤ 1 := by
  unfold lcF at h
  split at h
  · split at h
    · split at h
      · cases h; exact Nat.le_refl _
      · cases h
      · cases h
    · cases h; exact Nat.zero_le _
    · cases h
    · cases h
  · cases h
theorem goL_exc {f : D → List D → OutL} {x : D} {xs : List D} {s s' : List D} {c : Nat} {fs : List (Str × D)} {ρ : En} (h : goL f (x :: xs) s = .exc c fs ρ s') : f x s = .exc c fs ρ s' ∨ ∃ d1 ρ1 s1, f x s = .ok d1 ρ1 s1 ∧ goL f xs s1 = .exc c fs ρ s' := by
  unfold goL at h
  cases q : f x s with
  | bad => rw [q] at h; cases h
  | exc c1 fs1 ρ1 s1 => rw [q] at h; exact .inl h
  | ok d1 ρ1 s1 =>
    rw [q] at h
    dsimp only at h
    cases q2 : goL f xs s1 with
    | bad => rw [q2] at h; cases h
    | exc c2 fs2 ρ2 s2 => rw [q2] at h; exact .inr ⟨d1, ρ1, s1, rfl, by rw [q2]; exact h⟩
    | ok d2 ρ2 s2 => rw [q2] at h; cases h
theorem goL_step {f : D → List D → OutL} {x : D} {xs : List D} {s : List D} {ds : List D} {ρ : En} {s' : List D} (h : goL f (x :: xs) s = .ok ds ρ s') : ∃ d1 ρ1 s1 d2 ρ2, f x s = .ok d1 ρ1 s1 ∧ goL f xs s1 = .ok d2 ρ2 s' ∧ ds = d1 ++ d2 := by
  unfold goL at h
  cases q : f x s with
  | bad => rw [q] at h; cases h
  | exc c fs ρ s => rw [q] at h; cases h
  | ok d1 ρ1 s1 =>
    rw [q] at h
    dsimp only at h
    cases q2 : goL f xs s1 with
    | bad => rw [q2] at h; cases h
    | exc c fs ρ s => rw [q2] at h; cases h
    | ok d2 ρ2 s2 =>
      rw [q2] at h
      cases h
      exact ⟨d1, ρ1, s1, d2, ρ2, rfl, q2, rfl⟩
theorem Base.mem_al {g : G} (B : Base g w s) {p : Addr} (h : w.H p = none) : p ∉ w.al := (B.fresh h).1
/-- from what the iterator yields: the world w3, good, as before -/
theorem yld_good {g : G} {w3 : Ws} (G2 : Good g w0 w ρ s σ) (h : w3 = w ∨ ∃ p o, w.H p = none ∧ w3 = w.upF p o) : Good g w0 w3 ρ s σ ∧ Step w w3 ∧ Fr w w3 := by
  rcases h with rfl | ⟨p, o, hp, rfl⟩
  · exact ⟨G2, Step.refl _, fun a o h _ => h⟩
  · refine ⟨G2.upF hp, step_upF G2.base hp, fun a u h h' => ?_⟩
    show upd _ _ _ _ = _
    rw [upd_ne (ne_of_none h' hp)]; exact h
theorem Acc.move {g : G} {D : Addr} {acc : List V} {ds : List Z.D} {s2 s3 : List Z.D} {w3 : Ws} (A : Acc g w0 w1 ρ σ D w2 s2 acc ds) (G3 : Good g w0 w3 ρ s3 σ) (S : Step w2 w3) (fr : Fr w2 w3) : Acc g w0 w1 ρ σ D w3 s3 acc ds := by
  refine ⟨G3, A.step.trans S, S.hh _ _ A.hD A.aD, S.rs A.rs, fr D _ A.fD A.hD, fun hm => ?_, A.n1⟩
  have := S.an D hm A.aD
  rw [A.hD] at this; cases this
/-- what a turn's outcome must reach -/
def TurnGo (g : G) (w0 w1 w2 : Ws) (ρ : En) (σ : L2.St) (D : Addr) (ds : List Z.D) (E : XK) (Nx : Hp → Prop) : OutL → Prop
  | .ok d1 _ s' => ds.length + d1.length ≤ 100000 ∧ ∀ w5 acc5, Acc g w0 w1 ρ σ D w5 s' acc5 (ds ++ d1) → Nx w5.H
  | .exc c fs _ s' => ∀ C d w5, Base g w5 s' → Step w2 w5 → Fr w2 w5 → g.cl c = some C → XD g w5 d fs → E (.ref C) d w5.H
  | .bad => False
/-- the turn's reading: bind, test, make, push -/
theorem lc_turn {g : G} {D : Addr} {acc : List V} {ds : List Z.D} {s2 : List Z.D} {vs : List Nat} {tg : Tg} {co : Option Ex} {el : Ex} {x : V} {dx : Z.D} {s1 : List Z.D} {E : XK} {Nx : Hp → Prop}
    (G1 : Good g w0 w1 ρ s1 σ) (A : Acc g w0 w1 ρ σ D w2 s2 acc ds) (rx : Rw g w2 x dx) (hsl : ∀ j ∈ slots tg, j ∈ vs)
    (hf : TurnGo g w0 w1 w2 ρ σ D ds E Nx (lcF F (blkE ρ vs) tg co el dx s2)) :
    gD g.K tg x (wipe σ vs) w2.H fun σ2 H2 => wipe σ2 vs = wipe σ vs ∧ tO F g (WK E) co σ2 H2 fun b H3 =>
      if b = true then tI F g (WK E) .k el σ2 H3 fun y H4 => ∃ acc, H4 D = some (.lst acc) ∧ acc.length < sizeLine ∧ Nx (upd H4 D (.lst (acc ++ [y]))) else Nx H3 := by
  have Gb := A.good.blk vs
  unfold lcF at hf
  cases q : bindT tg dx (blkE ρ vs) with
  | none => rw [q] at hf; exact hf.elim
  | some ρ1 =>
    rw [q] at hf
    dsimp only at hf
    refine bind_ok Gb rx q fun σ' G3 hl hs => ?_
    refine ⟨wipe_eq (by rw [hl, wipe_length]) fun i hi => ?_, ?_⟩
    · rw [hs i fun z => hi (hsl i z), wipe_get hi]
    refine ⟨w2, w2, ρ1, s2, rfl, G3, ?_⟩
    cases q2 : evO F co ρ1 s2 with
    | bad => rw [q2] at hf; exact hf.elim
    | exc c fs ρ s =>
      rw [q2] at hf
      exact fun C d w5 G5 hC xd => hf C d w5 G5.base G5.ext G5.new hC xd
    | ok db ρ2 s3 =>
      rw [q2] at hf
      cases db with
      | bl b =>
        refine ⟨b, rfl, fun w3 G4 S4 O4 => ?_⟩
        have fr4 : Fr w2 w3 := G4.new
        cases b with
        | false =>
          refine iteF ?_
          obtain ⟨_, hN⟩ := hf
          rw [List.append_nil] at hN
          exact hN w3 acc (A.move (A.good.after G4.base S4 fr4) S4 fr4)
        | true =>
          refine iteT ?_
          dsimp only at hf
          refine ⟨w2, w3, ρ2, s3, rfl, G4, ?_⟩
          cases q3 : ev F el false ρ2 s3 with
          | bad => rw [q3] at hf; exact hf.elim
          | exc c fs ρ s =>
            rw [q3] at hf
            exact fun C d w5 G5 hC xd => hf C d w5 G5.base G5.ext G5.new hC xd
          | ok de ρ3 s4 =>
            rw [q3] at hf
            obtain ⟨hc, hN⟩ := hf
            intro y w4 G5 S5 O5 hp
            obtain ⟨h4, A5⟩ := A.push G1 G5.base (S4.trans S5) G5.new (show Rw g w4 y de from hp)
            refine ⟨acc, h4, ?_, hN _ _ A5⟩
            have := A.rs.length
            simp at hc
            exact Nat.lt_of_lt_of_le (show acc.length < 100000 by omega) (by decide)
      | _ => exact hf.elim
theorem Acc.new {g : G} {D : Addr} (G1 : Good g w0 w1 ρ s1 σ) (h : w1.H D = none) : Acc g w0 w1 ρ σ D (w1.up D (.lst [])) s1 [] [] :=
  ⟨G1.up h, step_up G1.base h, upd_same, .nil, (G1.base.fresh h).2, (G1.base.fresh h).1, h⟩
theorem goL_nil {f : D → List D → OutL} {s : List D} : goL f [] s = .ok [] [] s := rfl
theorem lc_read {g : G} {fz vs : List Nat} {tg : Tg} {it : Z.It} {co : Option Ex} {el : Ex} (hsl : ∀ j ∈ slots tg, j ∈ vs) (G0 : Good g w0 w ρ s σ) (h : Go g W .f w0 w ρ σ (ev F (.lc fz vs tg it co el) false ρ s) Q) :
    tLcX (tIt true F g W it) (gD g.K tg) (fun E => tO F g (WK E) co) (fun E => tI F g (WK E) .k el) W vs σ w.H Q := by
  have e0 : ev F (.lc fz vs tg it co el) false ρ s = (evI F it ρ s).bind fun x ρ s => match itemsOf x with
    | some xs =>
      match goL (lcF F (blkE (Z.frzAt ρ fz) vs) tg co el) xs s with
      | .ok ds _ s => if cap ds.length then .ok (.lst ds) (Z.frzAt ρ fz) s else .bad
      | .exc c fs _ s => if cap xs.length then .exc c fs (Z.frzAt ρ fz) s else .bad
      | .bad => .bad
    | none => .bad := rfl
  rw [e0] at h
  refine ⟨w0, w, ρ, s, rfl, G0, ?_⟩
  cases q : evI F it ρ s with
  | bad => rw [q] at h; exact h
  | exc c fs ρ' s' => rw [q] at h; exact h
  | ok d ρ1 s1 =>
    rw [q, Out.bind_ok] at h
    cases q1 : itemsOf d with
    | none => rw [q1] at h; exact h.elim
    | some xs =>
      rw [q1] at h
      refine ⟨xs, q1, fun J w1 G1 S1 O1 ji D hD => ?_⟩
      obtain ⟨w1', eH, G1', S1', O1'⟩ := G1.frzAt (fz := fz)
      rw [← eH] at hD ⊢
      cases q2 : goL (lcF F (blkE (Z.frzAt ρ1 fz) vs) tg co el) xs s1 with
      | bad => dsimp only at h; rw [q2] at h; exact h.elim
      | exc c fs ρ9 s9 =>
        dsimp only at h
        rw [q2] at h
        dsimp only at h
        split at h
        · rename_i hc
          have hc := of_decide_eq_true hc
          refine ⟨fun i m H => ∃ w2 s2 acc d1 ρ8, w2.H = H ∧ Acc g w0 w1' (Z.frzAt ρ1 fz) σ D w2 s2 acc d1 ∧ goL (lcF F (blkE (Z.frzAt ρ1 fz) vs) tg co el) (xs.drop i) s2 = .exc c fs ρ8 s9 ∧ d1.length ≤ i ∧ m = xs.length - i,
            ⟨_, _, s1, [], [], ρ9, rfl, Acc.new G1' hD, q2, Nat.le_refl _, rfl⟩, fun i m H ⟨w2, s2, acc, d1, ρ8, eH2, A, hg, ed, em⟩ => ?_⟩
          subst eH2
          have sb : Sb true w0 w1 w2 := ⟨fun _ => A.good.ext, fun a o e => A.step.hf a o (S1'.hf a o e), fun k a e => A.step.al k a (S1'.al k a e)⟩
          obtain ⟨j1, j2⟩ := ji w2 s2 A.good.base sb i
          by_cases hi : i < xs.length
          · refine .inr ?_
            have hx : xs[i]? = some xs[i] := List.getElem?_eq_getElem hi
            obtain ⟨go, yl⟩ := j1 _ hx
            refine ⟨go, fun H' => ∃ w2 s2 acc d1 ρ8, w2.H = H' ∧ Acc g w0 w1' (Z.frzAt ρ1 fz) σ D w2 s2 acc d1 ∧ goL (lcF F (blkE (Z.frzAt ρ1 fz) vs) tg co el) (xs.drop (i + 1)) s2 = .exc c fs ρ8 s9 ∧ d1.length ≤ i + 1,
              fun H' ⟨a1, a2, a3, a4, a6, b1, b2, b3, b4⟩ => ⟨xs.length - (i + 1), by omega, a1, a2, a3, a4, a6, b1, b2, b3, b4, rfl⟩, fun x H' hy => ?_⟩
            obtain ⟨w3, e3, h3, rx⟩ := yl x H' hy
            subst e3
            obtain ⟨G3, S3, fr3⟩ := yld_good A.good h3
            have A3 : Acc g w0 w1' (Z.frzAt ρ1 fz) σ D w3 s2 acc d1 := A.move G3 S3 fr3
            rw [List.drop_eq_getElem_cons hi] at hg
            refine lc_turn G1' A3 rx hsl ?_
            rcases goL_exc hg with f1 | ⟨e1, ρa, sa, f1, f2⟩
            · rw [f1]
              exact fun C d w5 B5 S5 F5 hC xd => h C d w5 (A3.good.after B5 S5 F5) hC xd
            · rw [f1]
              have l1 := lcF_len f1
              exact ⟨by omega, fun w5 acc5 A5 => ⟨w5, sa, acc5, d1 ++ e1, ρ8, rfl, A5, f2, by rw [List.length_append]; omega⟩⟩
          · rw [List.drop_of_length_le (by omega)] at hg
            cases hg
        · exact h.elim
      | ok ds ρ9 s9 =>
        dsimp only at h
        rw [q2] at h
        dsimp only at h
        split at h
        · rename_i hc
          refine ⟨fun i m H => ∃ w2 s2 acc d1 d2 ρ8, w2.H = H ∧ Acc g w0 w1' (Z.frzAt ρ1 fz) σ D w2 s2 acc d1 ∧ goL (lcF F (blkE (Z.frzAt ρ1 fz) vs) tg co el) (xs.drop i) s2 = .ok d2 ρ8 s9 ∧ ds = d1 ++ d2 ∧ m = xs.length - i,
            ⟨_, _, s1, [], [], ds, ρ9, rfl, Acc.new G1' hD, q2, rfl, rfl⟩, fun i m H ⟨w2, s2, acc, d1, d2, ρ8, eH2, A, hg, ed, em⟩ => ?_⟩
          subst eH2
          have sb : Sb true w0 w1 w2 := ⟨fun _ => A.good.ext, fun a o e => A.step.hf a o (S1'.hf a o e), fun k a e => A.step.al k a (S1'.al k a e)⟩
          obtain ⟨j1, j2⟩ := ji w2 s2 A.good.base sb i
          by_cases hi : i < xs.length
          · refine .inr ?_
            have hx : xs[i]? = some xs[i] := List.getElem?_eq_getElem hi
            obtain ⟨go, yl⟩ := j1 _ hx
            refine ⟨go, fun H' => ∃ w2 s2 acc d1 d2 ρ8, w2.H = H' ∧ Acc g w0 w1' (Z.frzAt ρ1 fz) σ D w2 s2 acc d1 ∧ goL (lcF F (blkE (Z.frzAt ρ1 fz) vs) tg co el) (xs.drop (i + 1)) s2 = .ok d2 ρ8 s9 ∧ ds = d1 ++ d2,
              fun H' ⟨a1, a2, a3, a4, a5, a6, b1, b2, b3, b4⟩ => ⟨xs.length - (i + 1), by omega, a1, a2, a3, a4, a5, a6, b1, b2, b3, b4, rfl⟩, fun x H' hy => ?_⟩
            obtain ⟨w3, e3, h3, rx⟩ := yl x H' hy
            subst e3
            obtain ⟨G3, S3, fr3⟩ := yld_good A.good h3
            have A3 : Acc g w0 w1' (Z.frzAt ρ1 fz) σ D w3 s2 acc d1 := A.move G3 S3 fr3
            rw [List.drop_eq_getElem_cons hi] at hg
            obtain ⟨e1, ρa, sa, e2, ρb, f1, f2, f3⟩ := goL_step hg
            refine lc_turn G1' A3 rx hsl ?_
            rw [f1]
            refine ⟨?_, fun w5 acc5 A5 => ⟨w5, sa, acc5, d1 ++ e1, e2, ρb, rfl, A5, f2, by rw [ed, f3, List.append_assoc]⟩⟩
            have hc' := of_decide_eq_true hc
            rw [ed, f3] at hc'
            simp at hc'
            omega
          · refine .inl ⟨j2 (by omega), ?_⟩
            rw [List.drop_of_length_le (by omega)] at hg
            cases hg
            rw [List.append_nil] at ed
            subst ed
            have SS := (S1.trans S1').trans A.step
            refine h (.ref D) w2 A.good SS (O1.trans O1') ⟨D, _, rfl, ?_, A.hD, .lst A.rs, A.fD, A.aD⟩
            cases q5 : w.H D with
            | none => rfl
            | some u =>
              by_cases ha : D ∈ w.al
              · exact absurd (SS.mem ha) A.aD
              · have := (S1.trans S1').hh D u q5 ha
                rw [hD] at this; cases this
        · exact h.elim
/-! ### two clauses -/
def NoOw (ρ : En) : Prop := ∀ (i : Nat) d, ρ[i]? ≠ some (.ow d)
theorem blkE_no (ρ : En) (vs : List Nat) : NoOw (blkE ρ vs) := fun i d h => by
  obtain ⟨a, b⟩ := wipeE_get h (by intro z; cases z)
  rw [List.getElem?_map] at a
  obtain ⟨y, e, e2⟩ := Option.map_eq_some_iff.mp a
  cases y <;> cases e2
theorem wipeE_no {ρ : En} (h : NoOw ρ) (vs : List Nat) : NoOw (wipeE ρ vs) := fun i d e => h i d (wipeE_get e (by intro z; cases z)).1
theorem set_no {ρ : En} (h : NoOw ρ) (i : Nat) (d : D) : NoOw (ρ.set i (.im d)) := fun j d' e => by
  by_cases hj : i = j
  · subst hj
    by_cases hi : i < ρ.length
    · rw [List.getElem?_set_self hi] at e; cases e
    · rw [List.getElem?_eq_none (by rw [List.length_set]; omega)] at e; cases e
  · rw [List.getElem?_set_ne hj] at e; exact h j d' e
mutual
theorem bind_no : ∀ {t : Tg} {d : D} {ρ ρ' : En}, NoOw ρ → bindT t d ρ = some ρ' → NoOw ρ'
  | .nm i, d, ρ, ρ', h, e => by
    unfold bindT at e
    split at e
    · cases e; exact set_no h i d
    · cases e
  | .tp ts, d, ρ, ρ', h, e => by
    cases d with
    | tup ds => exact binds_no h (show bindTs ts ds ρ = some ρ' from e)
    | lst ds => exact binds_no h (show bindTs ts ds ρ = some ρ' from e)
    | _ => cases e
theorem binds_no : ∀ {ts : List Tg} {ds : List D} {ρ ρ' : En}, NoOw ρ → bindTs ts ds ρ = some ρ' → NoOw ρ'
  | [], [], ρ, ρ', h, e => by cases e; exact h
  | t :: ts, d :: ds, ρ, ρ', h, e => by
    have h' : (match bindT t d ρ with | some ρ1 => bindTs ts ds ρ1 | none => none) = some ρ' := e
    cases q1 : bindT t d ρ with
    | none => rw [q1] at h'; cases h'
    | some ρ1 =>
      rw [q1] at h'
      exact binds_no (bind_no h q1) h'
  | [], _ :: _, _, _, _, h => by cases h
  | _ :: _, [], _, _, _, h => by cases h
end
theorem Good.rebase {g : G} (G0 : Good g w0 w ρ s σ) (h : NoOw ρ) : Good g w w ρ s σ :=
  ⟨G0.base, Step.refl w, fun a o h _ => h, G0.len, G0.im, fun i d e => absurd e (h i d), fun i d e => by
    obtain ⟨v, e1, r⟩ := G0.br i d e
    exact ⟨v, e1, r.step G0.ext⟩, fun i j d e a h1 _ _ _ => absurd h1 (h i d), G0.xc⟩
/-- the block's env over the outer entry -/
theorem Good.blk0 {g : G} (G0 : Good g w0 w ρ s σ) (vs : List Nat) : Good g w0 w (blkE ρ vs) s (L2.wipe σ vs) := by
  have Gb := G0.blk vs
  refine ⟨G0.base, G0.ext, G0.new, Gb.len, Gb.im, fun i d e => absurd e (blkE_no ρ vs i d), fun i d e => ?_, fun i j d e a h1 _ _ _ => absurd h1 (blkE_no ρ vs i d), Gb.xc⟩
  obtain ⟨a, b⟩ := wipeE_get e (by intro z; cases z)
  rw [List.getElem?_map] at a
  obtain ⟨y, e1, e2⟩ := Option.map_eq_some_iff.mp a
  cases y with
  | br d' =>
    cases e2
    obtain ⟨v, h1, h2⟩ := G0.br i d e1
    exact ⟨v, by rw [wipe_get b]; exact h1, h2⟩
  | un => cases e2
  | ow d' => cases e2
  | im d' => cases e2
  | xc c fs => cases e2
theorem Good.env {g : G} {w3 : Ws} (G0 : Good g w0 w ρ s σ) (G1 : Good g w3 w ρ1 s σ) (h : NoOw ρ) (O : Os ρ ρ1) : Good g w0 w ρ1 s σ :=
  ⟨G0.base, G0.ext, G0.new, G1.len, G1.im, fun i d e => absurd (O.ow i d e) (h i d), fun i d e => G0.br i d (O.br i d e), fun i j d e a h1 _ _ _ => absurd (O.ow i d h1) (h i d), G1.xc⟩
def lcF1 (F : Fs) (ρ2 : En) (vs1 : List Nat) (tg1 : Tg) (co1 : Option Ex) (el : Ex) : D → List D → OutL := fun y s => match bindT tg1 y (wipeE ρ2 vs1) with
  | some ρ3 => match evO F co1 ρ3 s with
    | .ok (.bl true) ρ3 s => match ev F el false ρ3 s with
      | .ok d _ s => .ok [d] [] s
      | _ => .bad
    | .ok (.bl false) _ s => .ok [] [] s
    | _ => .bad
  | none => .bad
def lcF2 (F : Fs) (ρb : En) (vs1 : List Nat) (tg : Tg) (co : Option Ex) (tg1 : Tg) (it1 : Z.It) (co1 : Option Ex) (el : Ex) : D → List D → OutL := fun x s => match bindT tg x ρb with
  | some ρ1 => match evO F co ρ1 s with
    | .ok (.bl true) ρ1 s => match evI F it1 ρ1 s with
      | .ok y ρ2 s => match itemsOf y with
        | some ys => goL (lcF1 F ρ2 vs1 tg1 co1 el) ys s
        | none => .bad
      | _ => .bad
    | .ok (.bl false) _ s => .ok [] [] s
    | _ => .bad
  | none => .bad
theorem lc2_read {g : G} {fz vs vs1 : List Nat} {tg tg1 : Tg} {it it1 : Z.It} {co co1 : Option Ex} {el : Ex} (hsl : ∀ j ∈ slots tg, j ∈ vs) (hsl1 : ∀ j ∈ slots tg1, j ∈ vs1) (G0 : Good g w0 w ρ s σ) (h : Go g W .f w0 w ρ σ (ev F (.lc2 fz vs vs1 tg it co tg1 it1 co1 el) false ρ s) Q) :
    tLc2 (tIt true F g W it) (gD g.K tg) (tO F g W0 co) (tIt false F g W0 it1) (gD g.K tg1) (tO F g W0 co1) (tI F g W0 .k el) vs vs1 σ w.H Q := by
  have e0 : ev F (.lc2 fz vs vs1 tg it co tg1 it1 co1 el) false ρ s = (evI F it ρ s).bind fun x ρ s => match itemsOf x with
    | some xs =>
      match goL (lcF2 F (blkE (Z.frzAt ρ fz) vs) vs1 tg co tg1 it1 co1 el) xs s with
      | .ok ds _ s => if cap ds.length then .ok (.lst ds) (Z.frzAt ρ fz) s else .bad
      | _ => .bad
    | none => .bad := rfl
  rw [e0] at h
  refine ⟨w0, w, ρ, s, rfl, G0, ?_⟩
  cases q : evI F it ρ s with
  | bad => rw [q] at h; exact h
  | exc c fs ρ' s' => rw [q] at h; exact h
  | ok d ρ1 s1 =>
    rw [q, Out.bind_ok] at h
    cases q1 : itemsOf d with
    | none => rw [q1] at h; exact h.elim
    | some xs =>
      rw [q1] at h
      refine ⟨xs, q1, fun J w1 G1 S1 O1 ji D hD => ?_⟩
      obtain ⟨w1', eH, G1', S1', O1'⟩ := G1.frzAt (fz := fz)
      rw [← eH] at hD ⊢
      cases q2 : goL (lcF2 F (blkE (Z.frzAt ρ1 fz) vs) vs1 tg co tg1 it1 co1 el) xs s1 with
      | bad => dsimp only at h; rw [q2] at h; exact h.elim
      | exc c fs ρ' s' => dsimp only at h; rw [q2] at h; exact h.elim
      | ok ds ρ9 s9 =>
        dsimp only at h
        rw [q2] at h
        dsimp only at h
        split at h
        · rename_i hc
          refine ⟨fun i m H => ∃ w2 s2 acc d1 d2 ρ8, w2.H = H ∧ Acc g w0 w1' (Z.frzAt ρ1 fz) σ D w2 s2 acc d1 ∧ goL (lcF2 F (blkE (Z.frzAt ρ1 fz) vs) vs1 tg co tg1 it1 co1 el) (xs.drop i) s2 = .ok d2 ρ8 s9 ∧ ds = d1 ++ d2 ∧ m = xs.length - i,
            ⟨_, _, s1, [], [], ds, ρ9, rfl, Acc.new G1' hD, q2, rfl, rfl⟩, fun i m H ⟨w2, s2, acc, d1, d2, ρ8, eH2, A, hg, ed, em⟩ => ?_⟩
          subst eH2
          have sb : Sb true w0 w1 w2 := ⟨fun _ => A.good.ext, fun a o e => A.step.hf a o (S1'.hf a o e), fun k a e => A.step.al k a (S1'.al k a e)⟩
          obtain ⟨j1, j2⟩ := ji w2 s2 A.good.base sb i
          by_cases hi : i < xs.length
          · refine .inr ?_
            have hx : xs[i]? = some xs[i] := List.getElem?_eq_getElem hi
            obtain ⟨go, yl⟩ := j1 _ hx
            refine ⟨go, fun H' => ∃ w2 s2 acc d1 d2 ρ8, w2.H = H' ∧ Acc g w0 w1' (Z.frzAt ρ1 fz) σ D w2 s2 acc d1 ∧ goL (lcF2 F (blkE (Z.frzAt ρ1 fz) vs) vs1 tg co tg1 it1 co1 el) (xs.drop (i + 1)) s2 = .ok d2 ρ8 s9 ∧ ds = d1 ++ d2,
              fun H' ⟨a1, a2, a3, a4, a5, a6, b1, b2, b3, b4⟩ => ⟨xs.length - (i + 1), by omega, a1, a2, a3, a4, a5, a6, b1, b2, b3, b4, rfl⟩, fun x H' hy => ?_⟩
            obtain ⟨w3, e3, h3, rx⟩ := yl x H' hy
            subst e3
            obtain ⟨G3, S3, fr3⟩ := yld_good A.good h3
            have A3 : Acc g w0 w1' (Z.frzAt ρ1 fz) σ D w3 s2 acc d1 := A.move G3 S3 fr3
            rw [List.drop_eq_getElem_cons hi] at hg
            obtain ⟨e1, ρa, sa, e2, ρb, f1, f2, f3⟩ := goL_step hg
            unfold lcF2 at f1
            cases q3 : bindT tg xs[i] (blkE (Z.frzAt ρ1 fz) vs) with
            | none => rw [q3] at f1; cases f1
            | some ρ3 =>
              rw [q3] at f1
              dsimp only at f1
              have n3 : NoOw ρ3 := bind_no (blkE_no _ _) q3
              refine bind_ok (A3.good.blk0 vs) rx q3 fun σ3 G4 hl hs => ?_
              refine ⟨wipe_eq (by rw [hl, wipe_length]) fun i hi => ?_, ?_⟩
              · rw [hs i fun z => hi (hsl i z), wipe_get hi]
              refine ⟨w3, w3, ρ3, s2, rfl, G4.rebase n3, ?_⟩
              cases q8 : evO F co ρ3 s2 with
              | bad => rw [q8] at f1; cases f1
              | exc c fs ρ s => rw [q8] at f1; cases f1
              | ok db ρ3' s3 =>
                rw [q8] at f1
                cases db with
                | bl b =>
                  refine ⟨b, rfl, fun w3' G4a S4' O4' => ?_⟩
                  have fr4' : Fr w3 w3' := G4a.new
                  have A3' : Acc g w0 w1' (Z.frzAt ρ1 fz) σ D w3' s3 acc d1 := A3.move (A3.good.after G4a.base S4' fr4') S4' fr4'
                  have G4' : Good g w0 w3' ρ3' s3 σ3 := (G4.after G4a.base S4' fr4').env G4a n3 O4'
                  have n3' : NoOw ρ3' := fun i d e => n3 i d (O4'.ow i d e)
                  cases b with
                  | false =>
                    refine iteF ?_
                    cases f1
                    exact ⟨w3', sa, acc, d1, e2, ρb, rfl, A3', f2, by rw [ed, f3]; rfl⟩
                  | true =>
                    refine iteT ?_
                    dsimp only at f1
                    refine ⟨w3', w3', ρ3', s3, rfl, G4'.rebase n3', ?_⟩
                    cases q4 : evI F it1 ρ3' s3 with
                    | bad => rw [q4] at f1; cases f1
                    | exc c fs ρ s => rw [q4] at f1; cases f1
                    | ok dy ρ4 s4 =>
                      rw [q4] at f1
                      dsimp only at f1
                      cases q5 : itemsOf dy with
                      | none => rw [q5] at f1; cases f1
                      | some ys =>
                        rw [q5] at f1
                        dsimp only at f1
                        refine ⟨ys, q5, fun J1 w4 G5 S5 O5 ji1 => ?_⟩
                        have fr5 : Fr w3' w4 := G5.new
                        have G5' : Good g w0 w4 ρ4 s4 σ3 := (G4'.after G5.base S5 fr5).env G5 n3' O5
                        have n4 : NoOw ρ4 := fun i d e => n3' i d (O5.ow i d e)
                        have A5 : Acc g w0 w1' (Z.frzAt ρ1 fz) σ D w4 s4 acc d1 := A3'.move (A3'.good.after G5.base S5 fr5) S5 fr5
                        refine ⟨fun j k H => ∃ w5 s5 acc d3 d4 ρ7, w5.H = H ∧ Acc g w0 w1' (Z.frzAt ρ1 fz) σ D w5 s5 acc d3 ∧ Good g w0 w5 ρ4 s5 σ3 ∧ Sb false w3' w4 w5 ∧ goL (lcF1 F ρ4 vs1 tg1 co1 el) (ys.drop j) s5 = .ok d4 ρ7 sa ∧ d1 ++ e1 = d3 ++ d4 ∧ k = ys.length - j,
                          ⟨_, w4, s4, acc, d1, e1, ρa, rfl, A5, G5', ⟨fun z => absurd z (by decide), fun a o e => e, fun k a e => e⟩, f1, rfl, rfl⟩, fun j k H ⟨w5, s5, acc5, d3, d4, ρ7, eH5, A6, G6, sb5, hg6, ed6, ek⟩ => ?_⟩
                        subst eH5
                        obtain ⟨m1, m2⟩ := ji1 w5 s5 A6.good.base sb5 j
                        by_cases hj : j < ys.length
                        · refine .inr ?_
                          obtain ⟨go1, yl1⟩ := m1 _ (List.getElem?_eq_getElem hj)
                          refine ⟨go1, fun H' => ∃ w5 s5 acc d3 d4 ρ7, w5.H = H' ∧ Acc g w0 w1' (Z.frzAt ρ1 fz) σ D w5 s5 acc d3 ∧ Good g w0 w5 ρ4 s5 σ3 ∧ Sb false w3' w4 w5 ∧ goL (lcF1 F ρ4 vs1 tg1 co1 el) (ys.drop (j + 1)) s5 = .ok d4 ρ7 sa ∧ d1 ++ e1 = d3 ++ d4,
                            fun H' ⟨a1, a2, a3, a4, a5, a6, b1, b2, b3, b4, b5, b6⟩ => ⟨ys.length - (j + 1), by omega, a1, a2, a3, a4, a5, a6, b1, b2, b3, b4, b5, b6, rfl⟩, fun x H' hy => ?_⟩
                          obtain ⟨w6, e6, h6, rx6⟩ := yl1 x H' hy
                          subst e6
                          obtain ⟨G7, S7, fr7⟩ := yld_good G6 h6
                          have A7 : Acc g w0 w1' (Z.frzAt ρ1 fz) σ D w6 s5 acc5 d3 := A6.move (A6.good.after G7.base S7 fr7) S7 fr7
                          rw [List.drop_eq_getElem_cons hj] at hg6
                          obtain ⟨c1, ρc, sc', c2, ρd, k1, k2, k3⟩ := goL_step hg6
                          unfold lcF1 at k1
                          cases q6 : bindT tg1 ys[j] (wipeE ρ4 vs1) with
                          | none => rw [q6] at k1; cases k1
                          | some ρ5 =>
                            rw [q6] at k1
                            dsimp only at k1
                            have n5 : NoOw ρ5 := bind_no (wipeE_no n4 vs1) q6
                            refine bind_ok (G7.wipe vs1) rx6 q6 fun σ5 G8 hl8 hs8 => ?_
                            refine ⟨wipe_eq (by rw [hl8, wipe_length]) fun i hi => ?_, ?_⟩
                            · rw [hs8 i fun z => hi (hsl1 i z), wipe_get hi]
                            refine ⟨w6, w6, ρ5, s5, rfl, G8.rebase n5, ?_⟩
                            cases q9 : evO F co1 ρ5 s5 with
                            | bad => rw [q9] at k1; cases k1
                            | exc c fs ρ s => rw [q9] at k1; cases k1
                            | ok db ρ5' s5' =>
                              rw [q9] at k1
                              cases db with
                              | bl b =>
                                refine ⟨b, rfl, fun w6' G8a S8' O8' => ?_⟩
                                have fr8 : Fr w6 w6' := G8a.new
                                have A7' : Acc g w0 w1' (Z.frzAt ρ1 fz) σ D w6' s5' acc5 d3 := A7.move (A7.good.after G8a.base S8' fr8) S8' fr8
                                have G7' : Good g w0 w6' ρ4 s5' σ3 := (show Good g w0 w6 ρ4 s5 σ3 from G7).after G8a.base S8' fr8
                                have G8' : Good g w0 w6' ρ5' s5' σ5 := (G8.after G8a.base S8' fr8).env G8a n5 O8'
                                have n5' : NoOw ρ5' := fun i d e => n5 i d (O8'.ow i d e)
                                have S7' := S7.trans S8'
                                cases b with
                                | false =>
                                  refine iteF ?_
                                  cases k1
                                  exact ⟨w6', sc', acc5, d3, c2, ρd, rfl, A7', G7', ⟨fun z => absurd z (by decide), fun a o e => S7'.hf a o (sb5.hf a o e), fun k a e => S7'.al k a (sb5.al k a e)⟩, k2, by rw [ed6, k3]; rfl⟩
                                | true =>
                                  refine iteT ?_
                                  dsimp only at k1
                                  refine ⟨w6', w6', ρ5', s5', rfl, G8'.rebase n5', ?_⟩
                                  cases q7 : ev F el false ρ5' s5' with
                                  | bad => rw [q7] at k1; cases k1
                                  | exc c fs ρ s => rw [q7] at k1; cases k1
                                  | ok de ρ6 s6 =>
                                    rw [q7] at k1
                                    cases k1
                                    intro y w7 G9 S9 O9 hp
                                    obtain ⟨h7, A8⟩ := A7'.push G1' G9.base S9 G9.new (show Rw g w7 y de from hp)
                                    have hf7 : ∀ a o, w4.Hf a = some o → w7.Hf a = some o := fun a o e => S9.hf a o (S7'.hf a o (sb5.hf a o e))
                                    have ha7 : ∀ (k : Nat) (a : Addr), w4.al[k]? = some a → w7.al[k]? = some a := fun k a e => S9.al k a (S7'.al k a (sb5.al k a e))
                                    have G10 : Good g w0 (w7.up D (.lst (acc5 ++ [y]))) ρ4 sc' σ3 := by
                                      have Ga := (show Good g w0 w6' ρ4 s5' σ3 from G7').after G9.base S9 G9.new
                                      obtain ⟨x1, _⟩ := A7'.no0 G1'
                                      exact Ga.mut h7 (G9.new D _ A7'.fD A7'.hD) (fun hm => by
                                        have := S9.an D hm A7'.aD
                                        rw [A7'.hD] at this; cases this) x1 fun i d e => absurd e (n4 i d)
                                    refine ⟨acc5, h7, ?_, _, _, _, _, _, _, rfl, A8, G10, ⟨fun z => absurd z (by decide), hf7, ha7⟩, k2, by rw [ed6, k3, List.append_assoc]⟩
                                    have hc' := of_decide_eq_true hc
                                    rw [ed, f3, ← List.append_assoc, ed6, k3] at hc'
                                    have := A7'.rs.length
                                    simp at hc'
                                    exact Nat.lt_of_lt_of_le (show acc5.length < 100000 by omega) (by decide)
                              | _ => cases k1
                        · refine .inl ⟨m2 (by omega), ?_⟩
                          rw [List.drop_of_length_le (by omega)] at hg6
                          cases hg6
                          rw [List.append_nil] at ed6
                          refine ⟨w5, sa, acc5, d3, e2, ρb, rfl, A6, f2, by rw [ed, f3, ← ed6, List.append_assoc]⟩
                | _ => cases f1
          · refine .inl ⟨j2 (by omega), ?_⟩
            rw [List.drop_of_length_le (by omega)] at hg
            cases hg
            rw [List.append_nil] at ed
            subst ed
            have SS := (S1.trans S1').trans A.step
            refine h (.ref D) w2 A.good SS (O1.trans O1') ⟨D, _, rfl, ?_, A.hD, .lst A.rs, A.fD, A.aD⟩
            cases q5 : w.H D with
            | none => rfl
            | some u =>
              by_cases ha : D ∈ w.al
              · exact absurd (SS.mem ha) A.aD
              · have := (S1.trans S1').hh D u q5 ha
                rw [hD] at this; cases this
        · exact h.elim
end
end Z

namespace Z
open PySem PySem.Spec PyProof.Rows L2
/-! statements of the plain machine -/
inductive Stm where
  | asg (t : Tg) (e : Ex)
  | own (i : Nat) (e : Ex)
  | par (i j : Nat) (a b : Ex)
  | aug (i : Nat) (op : Bo) (e : Ex)
  | exp (e : Ex)
  | app (i : Nat) (e : Ex)
  | seti (i : Nat) (k e : Ex)
  | ret (e : Ex) | retN | retM (e : Ex)
  | ife (t : Ex) (a b : List Stm)
  | whl (t : Ex) (b : List Stm)
  | for (tg : Tg) (it : It) (b : List Stm)
  | brk | cnt | pas
  | rai (c : Nat) (fs : List Str) (es : List Ex)
  | trx (b : List Stm) (ks : List Nat) (i : Option Nat) (su : List Stm)
inductive Fl where
  | nx (ρ : En) (s : List D) | rt (d : D) (s : List D) | bk (ρ : En) (s : List D) | ct (ρ : En) (s : List D)
  | exc (c : Nat) (fs : List (Str × D)) (ρ : En) (s : List D) | bad
def Out.fl (o : Out) (k : D → En → List D → Fl) : Fl := match o with
  | .ok d ρ s => k d ρ s
  | .exc c fs ρ s => .exc c fs ρ s
  | .bad => .bad
def OutL.fl (o : OutL) (k : List D → En → List D → Fl) : Fl := match o with
  | .ok d ρ s => k d ρ s
  | .exc c fs ρ s => .exc c fs ρ s
  | .bad => .bad
def Fl.seq (o : Fl) (k : En → List D → Fl) : Fl := match o with
  | .nx ρ s => k ρ s
  | o => o
@[simp] theorem Out.fl_ok (d ρ s k) : (Out.ok d ρ s).fl k = k d ρ s := rfl
@[simp] theorem OutL.fl_ok (d ρ s k) : (OutL.ok d ρ s).fl k = k d ρ s := rfl
@[simp] theorem Fl.seq_nx (ρ s k) : (Fl.nx ρ s).seq k = k ρ s := rfl
@[simp] theorem Fl.seq_rt (d s k) : (Fl.rt d s).seq k = .rt d s := rfl
def lpF (f : D → En → List D → Fl) : List D → En → List D → Fl
  | [], ρ, s => .nx ρ s
  | x :: xs, ρ, s => match f x ρ s with
    | .nx ρ s => lpF f xs ρ s
    | .ct ρ s => lpF f xs ρ s
    | .bk ρ s => .nx ρ s
    | o => o
def lpW (t : En → List D → Out) (b : En → List D → Fl) : Nat → En → List D → Fl
  | 0, _, _ => .bad
  | n + 1, ρ, s => (t ρ s).fl fun d ρ s => match d with
    | .bl true => match b ρ s with
      | .nx ρ s => lpW t b n ρ s
      | .ct ρ s => lpW t b n ρ s
      | .bk ρ s => .nx ρ s
      | o => o
    | .bl false => .nx ρ s
    | _ => .bad
def unX1 : Sl → Sl
  | .xc _ _ => .un
  | x => x
def unX (ρ : En) : En := ρ.map unX1
/-- how the suite begins; it ends by a return -/
def suB (i : Option Nat) (c : Nat) (fs : List (Str × D)) (ρ : En) : En := match i with
  | some i => (unX ρ).set i (.xc c fs)
  | none => unX ρ
def suF : Fl → Fl
  | .rt d s => .rt d s
  | _ => .bad
def isLst : D → Bool
  | .lst _ => true
  | _ => false
def fuelW : Nat := 1000000
section
variable (F : Fs)
mutual
def ex : Stm → En → List D → Fl
  | .asg t e, ρ, s => (ev F e false ρ s).fl fun d ρ s => match bindT t d ρ with
    | some ρ' => .nx ρ' s
    | none => .bad
  | .own i e, ρ, s => (ev F e false ρ s).fl fun d ρ s => if i < ρ.length ∧ isLst d = true then .nx (ρ.set i (.ow d)) s else .bad
  | .par i j a b, ρ, s => (evs F [a, b] ρ s).fl fun ds ρ s => match ds with
    | [x, y] => if i < ρ.length ∧ j < ρ.length then .nx ((ρ.set i (.im x)).set j (.im y)) s else .bad
    | _ => .bad
  | .aug i op e, ρ, s => match ρ[i]? with
    | some (.im (.int x)) => (ev F e false ρ s).fl fun d ρ s => match d with
      | .int y => match binD op (.int x) (.int y) with
        | some z => .nx (ρ.set i (.im z)) s
        | none => .bad
      | _ => .bad
    | _ => .bad
  | .exp e, ρ, s => (ev F e false ρ s).fl fun _ ρ s => .nx ρ s
  | .app i e, ρ, s => match ρ[i]? with
    | some (.ow (.lst _)) => (ev F e false ρ s).fl fun d ρ s => match ρ[i]? with
      | some (.ow (.lst ds)) => if ds.length < 100000 then .nx (ρ.set i (.ow (.lst (ds ++ [d])))) s else .bad
      | _ => .bad
    | _ => .bad
  | .seti i k e, ρ, s => (ev F e false ρ s).fl fun d ρ s => match ρ[i]? with
    | some (.ow (.lst ds)) => (ev F k false ρ s).fl fun y ρ s => match y with
      | .int n => match ixN ds.length n, ρ[i]? with
        | some j, some (.ow (.lst es)) => if es.length = ds.length then .nx (ρ.set i (.ow (.lst (es.set j d)))) s else .bad
        | _, _ => .bad
      | _ => .bad
    | some (.im (.mref r)) => (ev F k false ρ s).fl fun y ρ s => match y, s[r]? with
      | .int n, some (.lst es) => match ixN es.length n with
        | some j => .nx ρ (s.set r (.lst (es.set j d)))
        | none => .bad
      | _, _ => .bad
    | _ => .bad
  | .ret e, ρ, s => (ev F e false ρ s).fl fun d _ s => .rt d s
  | .retN, ρ, s => .rt .non s
  | .retM e, ρ, s => (ev F e false ρ s).fl fun d _ s => .rt (.mref s.length) (s ++ [d])
  | .ife t a b, ρ, s => (ev F t true ρ s).fl fun d ρ s => match d with
    | .bl true => exs a ρ s
    | .bl false => exs b ρ s
    | _ => .bad
  | .whl t b, ρ, s => lpW (fun ρ s => ev F t true ρ s) (fun ρ s => exs b ρ s) fuelW ρ s
  | .for tg it b, ρ, s => (evI F it ρ s).fl fun x ρ s => match itemsOf x with
    | some xs => lpF (fun x ρ s => match bindT tg x ρ with
      | some ρ' => exs b ρ' s
      | none => .bad) xs ρ s
    | none => .bad
  | .brk, ρ, s => .bk ρ s
  | .cnt, ρ, s => .ct ρ s
  | .pas, ρ, s => .nx ρ s
  | .rai c fs es, ρ, s => (evs F es ρ s).fl fun ds ρ s => if ds.length = fs.length then .exc c (fs.zip ds).reverse ρ s else .bad
  | .trx b ks i su, ρ, s => match exs b ρ s with
    | .exc c fs ρ s => if ks.contains c then suF (exs su (suB i c fs ρ) s) else .exc c fs ρ s
    | o => o
  termination_by structural x => x
def exs : List Stm → En → List D → Fl
  | [], ρ, s => .nx ρ s
  | a :: b, ρ, s => (ex a ρ s).seq fun ρ s => exs b ρ s
  termination_by structural x => x
end
/-- a def of n names over its arguments -/
def run (b : List Stm) (ms : List Bool) (n : Nat) : Fn := fun as s =>
  match exs F b ((as.zipIdx.map fun (a, i) => if ms[i]? = some true then Sl.br a else Sl.im a) ++ List.replicate (n - as.length) .un) s with
  | .nx _ s => .ok .non s
  | .rt d s => .ok d s
  | .exc c fs _ s => .exc c fs s
  | _ => .bad
end
/-! the readings -/
structure Kp (w w' : Ws) : Prop where
  hf : ∀ a o, w.Hf a = some o → w'.Hf a = some o
  al : ∀ (k : Nat) (a : Addr), w.al[k]? = some a → w'.al[k]? = some a
theorem Kp.refl (w : Ws) : Kp w w := ⟨fun _ _ h => h, fun _ _ h => h⟩
theorem Kp.trans {a b c : Ws} (h : Kp a b) (h' : Kp b c) : Kp a c := ⟨fun x o e => h'.hf x o (h.hf x o e), fun k x e => h'.al k x (h.al k x e)⟩
theorem Kp.of {a b : Ws} (h : Step a b) : Kp a b := ⟨h.hf, h.al⟩
def GoS (g : G) (W : WX) (w0 w : Ws) (o : Fl) (D : Ends) : Prop := match o with
  | .nx ρ s => ∀ w' σ, Good g w0 w' ρ s σ → Kp w w' → D.nx σ w'.H
  | .bk ρ s => ∀ w' σ, Good g w0 w' ρ s σ → Kp w w' → D.bk σ w'.H
  | .ct ρ s => ∀ w' σ, Good g w0 w' ρ s σ → Kp w w' → D.ct σ w'.H
  | .rt d s => ∀ v w', Base g w' s → Step w0 w' → Fr w0 w' → Rw g w' v d → D.rt v w'.H
  | .exc c fs ρ s => ∀ C d w' σ, Good g w0 w' ρ s σ → g.cl c = some C → XD g w' d fs → W (.ref C) d σ w'.H
  | .bad => False
def tS (F : Fs) (g : G) (W : WX) (p : Stm) : TS := fun D σ H => ∃ w0 w ρ s, w.H = H ∧ Good g w0 w ρ s σ ∧ GoS g W w0 w (ex F p ρ s) D
def tSs (F : Fs) (g : G) (W : WX) (p : List Stm) : TS := fun D σ H => ∃ w0 w ρ s, w.H = H ∧ Good g w0 w ρ s σ ∧ GoS g W w0 w (exs F p ρ s) D
section
variable {F : Fs} {T : Tb} {N : List Str} {sc : Scope} {ow : Str → Bool} {W : WX} {X : Cx} {p q pa pb pc : Ex} {w0 w w1 w2 w' : Ws} {ρ ρ1 : En} {s s1 s' : List D} {σ : L2.St} {H : Hp} {Q : VK} {k1 k2 k3 : Kd} {kk : Kd} {ms : List Bool} {ps : List Ex} {D : Ends} {st : Stmt} {sts : List Stmt} {pos : Pos} {i : Nat}
theorem GoS.shift {g : G} {o : Fl} (h : GoS g W w0 w o D) (K : Kp w w1) : GoS g W w0 w1 o D := by
  cases o with
  | nx ρ s => exact fun w' σ G0 K' => h w' σ G0 (K.trans K')
  | bk ρ s => exact fun w' σ G0 K' => h w' σ G0 (K.trans K')
  | ct ρ s => exact fun w' σ G0 K' => h w' σ G0 (K.trans K')
  | rt d s => exact h
  | exc c fs ρ s => exact h
  | bad => exact h
/-- an expression, then the rest -/
theorem fl_bind {k : Z.D → En → List Z.D → Fl} {kq : Kd} (G0 : Good T.g w0 w ρ s σ) (h : GoS T.g W w0 w ((ev F p false ρ s).fl k) D) :
    tI F T.g W kq p σ w.H (fun x H1 => ∃ w1 d ρ1 s1, Mid T.g w0 w w1 ρ ρ1 s1 σ H1 ∧ post T.g kq w0 w w1 x d ∧ GoS T.g W w0 w1 (k d ρ1 s1) D) := by
  refine ⟨w0, w, ρ, s, rfl, G0, ?_⟩
  cases q : ev F p false ρ s with
  | ok d ρ' s' =>
    rw [q] at h
    exact fun v w' a b c e => ⟨w', d, ρ', s', ⟨rfl, a, b, c⟩, e, GoS.shift h (Kp.of b)⟩
  | exc c fs ρ' s' => rw [q] at h; exact fun C d w' a => h C d w' σ a
  | bad => rw [q] at h; exact h
theorem flT_bind {k : Z.D → En → List Z.D → Fl} (hb : ∀ d ρ1 s1, (∀ b, d ≠ .bl b) → k d ρ1 s1 = .bad) (G0 : Good T.g w0 w ρ s σ) (h : GoS T.g W w0 w ((ev F p true ρ s).fl k) D) :
    tT F T.g W p σ w.H (fun b H1 => ∃ w1 ρ1 s1, Mid T.g w0 w w1 ρ ρ1 s1 σ H1 ∧ GoS T.g W w0 w1 (k (.bl b) ρ1 s1) D) := by
  refine ⟨w0, w, ρ, s, rfl, G0, ?_⟩
  cases q : ev F p true ρ s with
  | ok d ρ' s' =>
    rw [q] at h
    by_cases hd : ∃ b, d = .bl b
    · obtain ⟨b, rfl⟩ := hd
      exact ⟨b, rfl, fun w' a b' c => ⟨w', ρ', s', ⟨rfl, a, b', c⟩, GoS.shift h (Kp.of b')⟩⟩
    · have h' : GoS T.g W w0 w (k d ρ' s') D := h
      rw [hb d ρ' s' fun b e => hd ⟨b, e⟩] at h'
      exact h'.elim
  | exc c fs ρ' s' => rw [q] at h; exact fun C d w' a => h C d w' σ a
  | bad => rw [q] at h; exact h
/-! ### blocks -/
theorem s_nil : PSs X [] (tSs F T.g W []) := PSs.imp pss_nil fun D σ H ⟨w0, w, ρ, s, e, G0, h⟩ => by
  subst e
  exact h w σ G0 (Kp.refl w)
theorem s_cons {a : Stm} {b : List Stm} (h1 : PS X st (tS F T.g W a)) (h2 : PSs X sts (tSs F T.g W b)) : PSs X (st :: sts) (tSs F T.g W (a :: b)) := PSs.imp (pss_cons h1 h2) fun D σ H ⟨w0, w, ρ, s, e, G0, h⟩ => by
  subst e
  have e0 : exs F (a :: b) ρ s = (ex F a ρ s).seq fun ρ s => exs F b ρ s := rfl
  rw [e0] at h
  refine ⟨w0, w, ρ, s, rfl, G0, ?_⟩
  cases q : ex F a ρ s with
  | nx ρ1 s1 =>
    rw [q] at h
    exact fun w' σ' G1 K => ⟨w0, w', ρ1, s1, rfl, G1, GoS.shift h K⟩
  | bk ρ s => rw [q] at h; exact h
  | ct ρ s => rw [q] at h; exact h
  | rt d s => rw [q] at h; exact h
  | exc c fs ρ s => rw [q] at h; exact h
  | bad => rw [q] at h; exact h
theorem s_pas : PS X (.Pass pos) (tS F T.g W .pas) := PS.imp ps_pass fun D σ H ⟨w0, w, ρ, s, e, G0, h⟩ => by
  subst e
  exact h w σ G0 (Kp.refl w)
theorem s_brk : PS X (.Break pos) (tS F T.g W .brk) := PS.imp ps_break fun D σ H ⟨w0, w, ρ, s, e, G0, h⟩ => by
  subst e
  exact h w σ G0 (Kp.refl w)
theorem s_cnt : PS X (.Continue pos) (tS F T.g W .cnt) := PS.imp ps_continue fun D σ H ⟨w0, w, ρ, s, e, G0, h⟩ => by
  subst e
  exact h w σ G0 (Kp.refl w)
theorem s_retN : PS X (.Return none pos) (tS F T.g W .retN) := PS.imp ps_retN fun D σ H ⟨w0, w, ρ, s, e, G0, h⟩ => by
  subst e
  exact h .non w G0.base G0.ext G0.new .non
theorem s_ret {e : Expr} (he : PE X e (tI F T.g W .k p)) : PS X (.Return (some e) pos) (tS F T.g W (.ret p)) := PS.imp (ps_ret he) fun D σ H ⟨w0, w, ρ, s, e, G0, h⟩ => by
  subst e
  have e0 : ex F (.ret p) ρ s = (ev F p false ρ s).fl fun d _ s => .rt d s := rfl
  rw [e0] at h
  refine tI_mono (fl_bind (kq := .k) G0 h) fun x H1 ⟨w1, d, ρ1, s1, M, hp, h1⟩ => ?_
  obtain ⟨rfl, G1, S1, O1⟩ := M
  exact h1 x w1 G1.base G1.ext G1.new hp
theorem s_retM {e : Expr} (he : PE X e (tI F T.g W .f p)) : PS X (.Return (some e) pos) (tS F T.g W (.retM p)) := PS.imp (ps_ret he) fun D σ H ⟨w0, w, ρ, s, e, G0, h⟩ => by
  subst e
  have e0 : ex F (.retM p) ρ s = (ev F p false ρ s).fl fun d _ s => .rt (.mref s.length) (s ++ [d]) := rfl
  rw [e0] at h
  refine tI_mono (fl_bind (kq := .f) G0 h) fun x H1 ⟨w1, d, ρ1, s1, M, hp, h1⟩ => ?_
  obtain ⟨rfl, G1, S1, O1⟩ := M
  obtain ⟨a, o, rfl, hn, ha, ro, hf, hal⟩ := hp
  have B1 := G1.base
  have hw0 : a ∉ w0.al → w0.H a = none := fun hna => by
    cases q : w0.H a with
    | none => rfl
    | some u =>
      by_cases h2 : a ∈ w.al
      · exact absurd (S1.mem h2) hal
      · rw [G0.ext.hh a u q hna] at hn; cases hn
  have ea : ∀ (k : Nat) (b : Addr), w1.al[k]? = some b → (w1.al ++ [a])[k]? = some b := fun k b e => by
    rw [List.getElem?_append_left (List.getElem?_eq_some_iff.mp e).1]; exact e
  have roM : ∀ {o d}, RO T.g w1 o d → RO T.g ⟨w1.al ++ [a], w1.Hf, w1.H⟩ o d := fun h => by
    cases h with
    | lst r => exact .lst (r.mono (fun _ _ h => h) ea)
    | ins c r => exact .ins c (r.mono (fun _ _ h => h) ea)
  refine h1 (.ref a) ⟨w1.al ++ [a], w1.Hf, w1.H⟩ ⟨fun b u e => ?_, by simp [B1.sl], fun k b e => ?_, ?_⟩ ⟨?_, G1.ext.hf, G1.ext.hh, fun b hb hnb => ?_⟩ G1.new (.mref ?_)
  · refine ⟨(B1.fz b u e).1, fun hm => ?_⟩
    rcases List.mem_append.mp hm with hm | hm
    · exact (B1.fz b u e).2 hm
    · cases List.mem_singleton.mp hm
      rw [hf] at e; cases e
  · by_cases hk : k < w1.al.length
    · rw [List.getElem?_append_left hk] at e
      obtain ⟨d', o', e1, e2, r⟩ := B1.st k b e
      exact ⟨d', o', by rw [List.getElem?_append_left (by rw [B1.sl]; exact hk)]; exact e1, e2, roM r⟩
    · have hk' : k = w1.al.length := by
        have := (List.getElem?_eq_some_iff.mp e).1
        simp at this
        omega
      subst hk'
      simp at e
      subst e
      exact ⟨d, o, by rw [← B1.sl]; simp, ha, roM ro⟩
  · rw [List.nodup_append]
    refine ⟨B1.nd, by simp, fun x hx y hy => ?_⟩
    cases List.mem_singleton.mp hy
    exact fun e => hal (e ▸ hx)
  · obtain ⟨b, e⟩ := G1.ext.pa
    exact ⟨b ++ [a], by rw [e]; simp⟩
  · rcases List.mem_append.mp hb with hb | hb
    · exact G1.ext.an b hb hnb
    · cases List.mem_singleton.mp hb
      exact hw0 hnb
  · rw [B1.sl]; simp
theorem s_exp {e : Expr} (hs : swapsWith e none pos.line X.env = pure false) (he : PE X e (tI F T.g W k1 p)) : PS X (.Expr e pos) (tS F T.g W (.exp p)) := PS.imp (ps_expr he hs) fun D σ H ⟨w0, w, ρ, s, e, G0, h⟩ => by
  subst e
  have e0 : ex F (.exp p) ρ s = (ev F p false ρ s).fl fun _ ρ s => .nx ρ s := rfl
  rw [e0] at h
  refine tI_mono (fl_bind (kq := k1) G0 h) fun x H1 ⟨w1, d, ρ1, s1, M, hp, h1⟩ => ?_
  obtain ⟨rfl, G1, S1, O1⟩ := M
  exact h1 w1 σ G1 (Kp.refl _)
theorem s_asg {e tg : Expr} {t : Tg} (h0 : PS X (.Assign [tg] e pos) (tAsg (tI F T.g W .k p) (gD T.g.K t))) : PS X (.Assign [tg] e pos) (tS F T.g W (.asg t p)) := PS.imp h0 fun D σ H ⟨w0, w, ρ, s, e, G0, h⟩ => by
  subst e
  have e0 : ex F (.asg t p) ρ s = (ev F p false ρ s).fl fun d ρ s => match bindT t d ρ with
    | some ρ' => .nx ρ' s
    | none => .bad := rfl
  rw [e0] at h
  refine tI_mono (fl_bind (kq := .k) G0 h) fun x H1 ⟨w1, d, ρ1, s1, M, hp, h1⟩ => ?_
  obtain ⟨rfl, G1, S1, O1⟩ := M
  cases q : bindT t d ρ1 with
  | none => rw [q] at h1; exact h1.elim
  | some ρ2 =>
    rw [q] at h1
    exact bind_ok G1 hp q fun σ' G2 _ _ => h1 w1 σ' G2 (Kp.refl _)
/-- a fresh thing goes to a slot, which owns it -/
theorem Good.own {g : G} {a : Addr} {o : HO} {d : Z.D} (G0 : Good g w0 w ρ s σ) (hn : ∀ (j : Nat) e, ρ[j]? = some (.ow e) → σ[j]? ≠ some (some (.ref a))) (h : w.H a = some o) (r : RO g w o d) (hf : w.Hf a = none) (ha : a ∉ w.al) (h0 : w0.H a = none) (i : Nat) : Good g w0 w (ρ.set i (.ow d)) s (σ.set i (some (.ref a))) := by
  have key : ∀ {j : Nat} {x : Sl}, (ρ.set i (.ow d))[j]? = some x → (i = j ∧ i < ρ.length ∧ x = .ow d) ∨ (i ≠ j ∧ ρ[j]? = some x) := fun {j x} e => by
    by_cases hj : i = j
    · subst hj
      by_cases hi : i < ρ.length
      · rw [List.getElem?_set_self hi] at e; cases e; exact .inl ⟨rfl, hi, rfl⟩
      · rw [List.getElem?_eq_none (by rw [List.length_set]; omega)] at e; cases e
    · rw [List.getElem?_set_ne hj] at e; exact .inr ⟨hj, e⟩
  refine ⟨G0.base, G0.ext, G0.new, by rw [List.length_set, List.length_set]; exact G0.len, fun j d' e => ?_, fun j d' e => ?_, fun j d' e => ?_, fun j k d' d'' b e e' e2 e3 => ?_, fun j c fs e => by
      rcases key e with ⟨rfl, hi, e⟩ | ⟨hj, e⟩
      · cases e
      · rw [List.getElem?_set_ne hj]; exact G0.xc j c fs e⟩
  · rcases key e with ⟨rfl, hi, e⟩ | ⟨hj, e⟩
    · cases e
    · rw [List.getElem?_set_ne hj]; exact G0.im j d' e
  · rcases key e with ⟨rfl, hi, e⟩ | ⟨hj, e⟩
    · cases e
      exact ⟨a, o, by rw [List.getElem?_set_self (by rw [G0.len]; exact hi)], h, r, hf, ha, h0⟩
    · rw [List.getElem?_set_ne hj]; exact G0.ow j d' e
  · rcases key e with ⟨rfl, hi, e⟩ | ⟨hj, e⟩
    · cases e
    · rw [List.getElem?_set_ne hj]; exact G0.br j d' e
  · rcases key e with ⟨rfl, hi, e⟩ | ⟨hj, e⟩
    · rcases key e' with ⟨rfl, hi', e'⟩ | ⟨hk, e'⟩
      · rfl
      · rw [List.getElem?_set_self (by rw [G0.len]; exact hi)] at e2
        cases e2
        rw [List.getElem?_set_ne hk] at e3
        exact absurd e3 (hn k d'' e')
    · rcases key e' with ⟨rfl, hi', e'⟩ | ⟨hk, e'⟩
      · rw [List.getElem?_set_self (by rw [G0.len]; exact hi')] at e3
        cases e3
        rw [List.getElem?_set_ne hj] at e2
        exact absurd e2 (hn j d' e)
      · rw [List.getElem?_set_ne hj] at e2; rw [List.getElem?_set_ne hk] at e3
        exact G0.dis j k d' d'' b e e' e2 e3
theorem fresh0 {g : G} {a : Addr} (G0 : Good g w0 w ρ s σ) (G1 : Good g w0 w1 ρ1 s1 σ) (h : w.H a = none) (hn : a ∉ w1.al) (O : Os ρ ρ1) : w0.H a = none ∧ ∀ (j : Nat) e, ρ1[j]? = some (.ow e) → σ[j]? ≠ some (some (.ref a)) := by
  refine ⟨?_, fun j e hj z => ?_⟩
  · cases q0 : w0.H a with
    | none => rfl
    | some u =>
      by_cases ha : a ∈ w0.al
      · exact absurd (G1.ext.mem ha) hn
      · rw [G0.ext.hh a u q0 ha] at h; cases h
  · obtain ⟨b, o, e1, e2, _⟩ := G0.ow j e (O.ow j e hj)
    rw [z] at e1
    cases e1
    rw [h] at e2; cases e2
theorem s_own {e tg : Expr} (h0 : PS X (.Assign [tg] e pos) (tAsg (tI F T.g W .f p) (gName i))) : PS X (.Assign [tg] e pos) (tS F T.g W (.own i p)) := PS.imp h0 fun D σ H ⟨w0, w, ρ, s, e, G0, h⟩ => by
  subst e
  have e0 : ex F (.own i p) ρ s = (ev F p false ρ s).fl fun d ρ s => if i < ρ.length ∧ isLst d = true then .nx (ρ.set i (.ow d)) s else .bad := rfl
  rw [e0] at h
  refine tI_mono (fl_bind (kq := .f) G0 h) fun x H1 ⟨w1, d, ρ1, s1, M, hp, h1⟩ => ?_
  obtain ⟨rfl, G1, S1, O1⟩ := M
  split at h1
  · obtain ⟨a, o, rfl, a1, a2, a3, a4, a5⟩ := hp
    obtain ⟨z0, zn⟩ := fresh0 G0 G1 a1 a5 O1
    exact h1 w1 _ (G1.own zn a2 a3 a4 a5 z0 i) (Kp.refl _)
  · exact h1.elim
theorem s_ife {c : Expr} {a b : List Stmt} {sa sb : List Stm} (hc : PT X c (tT F T.g W p)) (ha : PSs X a (tSs F T.g W sa)) (hb : PSs X b (tSs F T.g W sb)) : PS X (.If c a b pos) (tS F T.g W (.ife p sa sb)) := PS.imp (ps_if hc ha hb) fun D σ H ⟨w0, w, ρ, s, e, G0, h⟩ => by
  subst e
  have e0 : ex F (.ife p sa sb) ρ s = (ev F p true ρ s).fl fun d ρ s => match d with
    | .bl true => exs F sa ρ s
    | .bl false => exs F sb ρ s
    | _ => .bad := rfl
  rw [e0] at h
  refine tT_mono (flT_bind (by intro d ρ1 s1 hn; cases d <;> first | rfl | exact absurd rfl (hn _)) G0 h) fun b H1 ⟨w1, ρ1, s1, M, h1⟩ => ?_
  obtain ⟨rfl, G1, S1, O1⟩ := M
  cases b with
  | true => exact iteT ⟨w0, w1, ρ1, s1, rfl, G1, h1⟩
  | false => exact iteF ⟨w0, w1, ρ1, s1, rfl, G1, h1⟩
/-! ### loops -/
theorem s_whl {c : Expr} {b : List Stmt} {sb : List Stm} (hpo : PassesOwn (model X.prog X.w) X.A X.env X.xe) (hc : PT X c (tT F T.g W p)) (hb : PSs X b (tSs F T.g W sb)) : PS X (.While c b [] pos) (tS F T.g W (.whl p sb)) := PS.imp (ps_while hpo hc hb) fun D σ H ⟨w0, w, ρ, s, e, G0, h⟩ => by
  subst e
  have e0 : ex F (.whl p sb) ρ s = lpW (fun ρ s => ev F p true ρ s) (fun ρ s => exs F sb ρ s) fuelW ρ s := rfl
  rw [e0] at h
  refine ⟨fun m σ H => ∃ w ρ s, w.H = H ∧ Good T.g w0 w ρ s σ ∧ GoS T.g W w0 w (lpW (fun ρ s => ev F p true ρ s) (fun ρ s => exs F sb ρ s) m ρ s) D, ⟨fuelW, w, ρ, s, rfl, G0, h⟩, fun m σ H ⟨w, ρ, s, e, G1, h1⟩ => ?_⟩
  subst e
  cases m with
  | zero => exact h1.elim
  | succ n =>
    have e1 : lpW (fun ρ s => ev F p true ρ s) (fun ρ s => exs F sb ρ s) (n + 1) ρ s = (ev F p true ρ s).fl fun d ρ s => match d with
      | .bl true => match exs F sb ρ s with
        | .nx ρ s => lpW (fun ρ s => ev F p true ρ s) (fun ρ s => exs F sb ρ s) n ρ s
        | .ct ρ s => lpW (fun ρ s => ev F p true ρ s) (fun ρ s => exs F sb ρ s) n ρ s
        | .bk ρ s => .nx ρ s
        | o => o
      | .bl false => .nx ρ s
      | _ => .bad := rfl
    rw [e1] at h1
    refine tT_mono (flT_bind (by intro d ρ1 s1 hn; cases d <;> first | rfl | exact absurd rfl (hn _)) G1 h1) fun b H1 ⟨w1, ρ1, s1, M, h1⟩ => ?_
    obtain ⟨rfl, G1, S1, O1⟩ := M
    cases b with
    | false => exact iteF (h1 w1 σ G1 (Kp.refl _))
    | true =>
      refine iteT ⟨fun σ H => ∃ w ρ s, w.H = H ∧ Good T.g w0 w ρ s σ ∧ GoS T.g W w0 w (lpW (fun ρ s => ev F p true ρ s) (fun ρ s => exs F sb ρ s) n ρ s) D, fun σ' H' z => ⟨n, Nat.lt_succ_self n, z⟩, w0, w1, ρ1, s1, rfl, G1, ?_⟩
      dsimp only at h1
      cases q : exs F sb ρ1 s1 with
      | nx ρ2 s2 => rw [q] at h1; exact fun w' σ' G2 K2 => ⟨w', ρ2, s2, rfl, G2, GoS.shift h1 K2⟩
      | ct ρ2 s2 => rw [q] at h1; exact fun w' σ' G2 K2 => ⟨w', ρ2, s2, rfl, G2, GoS.shift h1 K2⟩
      | bk ρ2 s2 => rw [q] at h1; exact h1
      | rt d s2 => rw [q] at h1; exact h1
      | exc c fs ρ2 s2 => rw [q] at h1; exact h1
      | bad => rw [q] at h1; exact h1
theorem s_for {tg iter : Expr} {b : List Stmt} {sb : List Stm} {t : Tg} {it : Z.It} (h0 : PS X (.For tg iter b [] pos) (tFor (tIt true F T.g W it) (gD T.g.K t) (tSs F T.g W sb))) : PS X (.For tg iter b [] pos) (tS F T.g W (.for t it sb)) := PS.imp h0 fun D σ H ⟨w0, w, ρ, s, e, G0, h⟩ => by
  subst e
  have e0 : ex F (.for t it sb) ρ s = (evI F it ρ s).fl fun x ρ s => match itemsOf x with
    | some xs => lpF (fun x ρ s => match bindT t x ρ with
      | some ρ' => exs F sb ρ' s
      | none => .bad) xs ρ s
    | none => .bad := rfl
  rw [e0] at h
  refine ⟨w0, w, ρ, s, rfl, G0, ?_⟩
  cases q : evI F it ρ s with
  | bad => rw [q] at h; exact h
  | exc c fs ρ' s' => rw [q] at h; exact fun C d w' a => h C d w' σ a
  | ok d ρ1 s1 =>
    rw [q, Out.fl_ok] at h
    cases q1 : itemsOf d with
    | none => rw [q1] at h; exact h.elim
    | some xs =>
      rw [q1] at h
      dsimp only at h
      refine ⟨xs, q1, fun J w1 G1 S1 O1 ji => ?_⟩
      refine ⟨fun i m σ H => ∃ w2 ρ2 s2, w2.H = H ∧ Good T.g w0 w2 ρ2 s2 σ ∧ Kp w1 w2 ∧ m = xs.length - i ∧ GoS T.g W w0 w2 (lpF (fun x ρ s => match bindT t x ρ with
        | some ρ' => exs F sb ρ' s
        | none => .bad) (xs.drop i) ρ2 s2) D, ⟨xs.length, w1, ρ1, s1, rfl, G1, Kp.refl _, rfl, GoS.shift h (Kp.of S1)⟩, fun i m σ2 H ⟨w2, ρ2, s2, e, G2, K2, em, h2⟩ => ?_⟩
      subst e
      obtain ⟨j1, j2⟩ := ji w2 s2 G2.base ⟨fun _ => G2.ext, K2.hf, K2.al⟩ i
      by_cases hi : i < xs.length
      · refine .inr ?_
        obtain ⟨go, yl⟩ := j1 _ (List.getElem?_eq_getElem hi)
        refine ⟨go, fun σ H => ∃ w2 ρ2 s2, w2.H = H ∧ Good T.g w0 w2 ρ2 s2 σ ∧ Kp w1 w2 ∧ GoS T.g W w0 w2 (lpF (fun x ρ s => match bindT t x ρ with
          | some ρ' => exs F sb ρ' s
          | none => .bad) (xs.drop (i + 1)) ρ2 s2) D, fun σ' H' ⟨a1, a2, a3, a4, a5, a6, a7⟩ => ⟨xs.length - (i + 1), by omega, a1, a2, a3, a4, a5, a6, rfl, a7⟩, fun x H' hy => ?_⟩
        obtain ⟨w3, e3, h3, rx⟩ := yl x H' hy
        subst e3
        obtain ⟨G3, S3, fr3⟩ := yld_good G2 h3
        rw [List.drop_eq_getElem_cons hi] at h2
        unfold lpF at h2
        cases q3 : bindT t xs[i] ρ2 with
        | none => rw [q3] at h2; exact h2.elim
        | some ρ3 =>
          rw [q3] at h2
          dsimp only at h2
          refine bind_ok G3 rx q3 fun σ3 G4 _ _ => ⟨w0, w3, ρ3, s2, rfl, G4, ?_⟩
          have K3 : Kp w1 w3 := K2.trans (Kp.of S3)
          have h2' := GoS.shift h2 (Kp.of S3)
          cases q4 : exs F sb ρ3 s2 with
          | nx ρ4 s4 => rw [q4] at h2'; exact fun w' σ' G5 K5 => ⟨w', ρ4, s4, rfl, G5, K3.trans K5, GoS.shift h2' K5⟩
          | ct ρ4 s4 => rw [q4] at h2'; exact fun w' σ' G5 K5 => ⟨w', ρ4, s4, rfl, G5, K3.trans K5, GoS.shift h2' K5⟩
          | bk ρ4 s4 => rw [q4] at h2'; exact h2'
          | rt d s4 => rw [q4] at h2'; exact h2'
          | exc c fs ρ4 s4 => rw [q4] at h2'; exact h2'
          | bad => rw [q4] at h2'; exact h2'
      · refine .inl ⟨j2 (by omega), ?_⟩
        rw [List.drop_of_length_le (by omega)] at h2
        exact h2 w2 σ2 G2 (Kp.refl _)
end
end Z

namespace Z
open PySem PySem.Spec PyProof.Rows L2
section
variable {F : Fs} {T : Tb} {N : List Str} {sc : Scope} {ow : Str → Bool} {W : WX} {X : Cx} {p q pa pb pc : Ex} {w0 w w1 w2 w' : Ws} {ρ ρ1 : En} {s s1 s' : List D} {σ : L2.St} {H : Hp} {Q : VK} {k1 k2 k3 : Kd} {kk : Kd} {ms : List Bool} {ps : List Ex} {D : Ends} {st : Stmt} {sts : List Stmt} {pos : Pos} {i j : Nat}
theorem flL_bind {k : List Z.D → En → List Z.D → Fl} {P : List V → Hp → Prop} (G0 : Good T.g w0 w ρ s σ) (h : GoS T.g W w0 w ((evs F ps ρ s).fl k) D)
    (hp : ∀ vs w1 ds ρ1 s1, Good T.g w0 w1 ρ1 s1 σ → Ps T.g w1 ms vs ds → GoS T.g W w0 w1 (k ds ρ1 s1) D → P vs w1.H) : tA F T.g W ms ps σ w.H P := by
  refine ⟨w0, w, ρ, s, rfl, G0, ?_⟩
  cases q : evs F ps ρ s with
  | ok d ρ' s' =>
    rw [q] at h
    exact fun v w' a b c e => hp v w' d ρ' s' a e (GoS.shift h (Kp.of b))
  | exc c fs ρ' s' => rw [q] at h; exact fun C d w' a => h C d w' σ a
  | bad => rw [q] at h; exact h
theorem s_par {tg e : Expr} {a b : Ex} (h0 : PS X (.Assign [tg] e pos) (tPar i j (tA F T.g W [false, false] [a, b]))) : PS X (.Assign [tg] e pos) (tS F T.g W (.par i j a b)) := PS.imp h0 fun D σ H ⟨w0, w, ρ, s, e, G0, h⟩ => by
  subst e
  have e0 : ex F (.par i j a b) ρ s = (evs F [a, b] ρ s).fl fun ds ρ s => match ds with
    | [x, y] => if i < ρ.length ∧ j < ρ.length then .nx ((ρ.set i (.im x)).set j (.im y)) s else .bad
    | _ => .bad := rfl
  rw [e0] at h
  refine flL_bind G0 h fun vs w1 ds ρ1 s1 G1 hp h1 => ?_
  split at h1
  · rename_i x y
    split at h1
    · cases hp with
      | k r1 hp =>
        cases hp with
        | k r2 hp =>
          cases hp
          exact ⟨_, _, rfl, h1 w1 _ ((G1.set i r1).set j r2) (Kp.refl _)⟩
    · exact h1.elim
  · exact h1.elim
def augO : Bo → Bool
  | .add => true
  | .sub => true
  | _ => false
theorem s_aug {x : Str} {e : Expr} {px : Pos} (op : Bo) (ho : augO op = true) (hN : X.N.Nodup) (hi : X.N[i]? = some x) (hx : Loc X.env.scope x) (hf : X.fn x = true ∨ X.env.scope.names.lookup x = some .local) (he : PE X e (tI F T.g W k1 p)) :
    PS X (.AugAssign (.Name x px) (boO op) e pos) (tS F T.g W (.aug i op p)) := by
  have key : ∀ (f : Int → Int → Int), PIp X (boO op) (ipI f) → (∀ x y, binD op (.int x) (.int y) = some (.int (f x y))) → PS X (.AugAssign (.Name x px) (boO op) e pos) (tS F T.g W (.aug i op p)) := fun f hp hb =>
    PS.imp (ps_aug hN hi hx he hp hf) fun D σ H ⟨w0, w, ρ, s, e, G0, h⟩ => by
      subst e
      unfold ex at h
      split at h
      · rename_i x0 e1
        obtain ⟨v, h1, r⟩ := G0.im i _ e1
        cases r
        refine ⟨_, h1, ?_⟩
        refine tI_mono (fl_bind (kq := k1) G0 h) fun y H1 ⟨w1, d, ρ1, s1, M, hp, h2⟩ => ?_
        obtain ⟨rfl, G1, S1, O1⟩ := M
        have t := hp.tr G1.ext
        cases d with
        | int y0 =>
          cases t.int
          dsimp only at h2
          rw [hb] at h2
          exact ⟨x0, y0, rfl, rfl, h2 w1 _ (G1.set i (.int _)) (Kp.refl _)⟩
        | _ => exact h2.elim
      · exact h.elim
  cases op with
  | add => exact key _ ip_add fun _ _ => rfl
  | sub => exact key _ ip_sub fun _ _ => rfl
  | _ => cases ho
/-- an own slot's thing is changed -/
theorem Good.chg {g : G} {a : Addr} {o : HO} {d d' : Z.D} (G0 : Good g w0 w ρ s σ) (e : ρ[i]? = some (.ow d)) (ea : σ[i]? = some (some (.ref a))) (r : RO g w o d') : Good g w0 (w.up a o) (ρ.set i (.ow d')) s σ := by
  obtain ⟨a', u, e1, e2, e3, e4, e5, e6⟩ := G0.ow i d e
  rw [ea] at e1
  cases e1
  have ra : ∀ {o' d}, RO g w o' d → RO g (w.up a o) o' d := fun r => by
    cases r with
    | lst r => exact .lst r
    | ins c r => exact .ins c r
  have hi : i < ρ.length := (List.getElem?_eq_some_iff.mp e).1
  refine ⟨⟨fun b u' e' => ?_, G0.base.sl, fun k b e' => ?_, G0.base.nd⟩, ⟨G0.ext.pa, G0.ext.hf, fun b u' e' na => ?_, G0.ext.an⟩, G0.new, by rw [List.length_set]; exact G0.len, fun j d2 e' => ?_, fun j d2 e' => ?_, fun j d2 e' => ?_, fun j k d2 d3 b e' e'' => ?_, fun j c fs e' => by
      by_cases hj : i = j
      · subst hj; rw [List.getElem?_set_self hi] at e'; cases e'
      · rw [List.getElem?_set_ne hj] at e'; exact G0.xc j c fs e'⟩
  · obtain ⟨f1, f2⟩ := G0.base.fz b u' e'
    refine ⟨?_, f2⟩
    show upd _ _ _ _ = _
    rw [upd_ne (ne_of_none e' e4)]; exact f1
  · obtain ⟨d2, u2, f1, f2, f3⟩ := G0.base.st k b e'
    refine ⟨d2, u2, f1, ?_, ra f3⟩
    show upd _ _ _ _ = _
    rw [upd_ne (fun z => e5 (by rw [← z]; exact List.mem_of_getElem? e'))]; exact f2
  · show upd _ _ _ _ = _
    rw [upd_ne (ne_of_none e' e6)]; exact G0.ext.hh b u' e' na
  · by_cases hj : i = j
    · subst hj; rw [List.getElem?_set_self hi] at e'; cases e'
    · rw [List.getElem?_set_ne hj] at e'; exact G0.im j d2 e'
  · by_cases hj : i = j
    · subst hj; rw [List.getElem?_set_self hi] at e'; cases e'
      exact ⟨a, o, ea, upd_same, ra r, e4, e5, e6⟩
    · rw [List.getElem?_set_ne hj] at e'
      obtain ⟨b, u2, f1, f2, f3, f4, f5, f6⟩ := G0.ow j d2 e'
      have ne : b ≠ a := fun z => hj (G0.dis i j d d2 a e e' ea (by rw [← z]; exact f1))
      exact ⟨b, u2, f1, by show upd _ _ _ _ = _; rw [upd_ne ne]; exact f2, ra f3, f4, f5, f6⟩
  · by_cases hj : i = j
    · subst hj; rw [List.getElem?_set_self hi] at e'; cases e'
    · rw [List.getElem?_set_ne hj] at e'; exact G0.br j d2 e'
  · intro e2 e3
    have fix : ∀ {j : Nat} {d2 : Z.D}, (ρ.set i (.ow d'))[j]? = some (.ow d2) → ∃ d4, ρ[j]? = some (.ow d4) := fun {j d2} h => by
      by_cases hj : i = j
      · subst hj; exact ⟨d, e⟩
      · rw [List.getElem?_set_ne hj] at h; exact ⟨_, h⟩
    obtain ⟨d4, f4⟩ := fix e'
    obtain ⟨d5, f5⟩ := fix e''
    exact G0.dis j k d4 d5 b f4 f5 e2 e3
theorem s_app {x : Expr} {e : Expr} {ap cp : Pos} (hs : swapsWith (.Call (.Attribute x "append" ap) [e] [] cp) none pos.line X.env = pure false) (K : X.K = T.g.K)
    (h0 : PE X (.Call (.Attribute x "append" ap) [e] [] cp) (tBM X.K "list" rAppend (tVar i) (tCons (tI F T.g W .k p) tNil))) : PS X (.Expr (.Call (.Attribute x "append" ap) [e] [] cp) pos) (tS F T.g W (.app i p)) := PS.imp (ps_expr h0 hs) fun D σ H ⟨w0, w, ρ, s, e, G0, h⟩ => by
  subst e
  unfold ex at h
  split at h
  · rename_i xs e1
    obtain ⟨a, o, a1, a2, a3, a4, a5, a6⟩ := G0.ow i _ e1
    cases a3 with
    | lst r =>
      rename_i vs
      refine ⟨.ref a, a1, .inl ⟨rfl, vs, SqL.of a2⟩, ?_⟩
      refine tI_mono (fl_bind (kq := .k) G0 h) fun y H1 ⟨w1, d, ρ1, s1, M, hp, h2⟩ => ?_
      obtain ⟨rfl, G1, S1, O1⟩ := M
      split at h2
      · rename_i ds e2
        split at h2
        · rename_i hl
          obtain ⟨b, o2, b1, b2, b3, b4, b5, b6⟩ := G1.ow i _ e2
          rw [a1] at b1
          cases b1
          cases b3 with
          | lst r2 =>
            rename_i vs2
            refine ⟨a, vs2, y, rfl, rfl, b2, ?_, ?_⟩
            · rw [r2.length]
              exact Nat.lt_of_lt_of_le hl (by decide)
            · exact h2 (w1.up a (.lst (vs2 ++ [y]))) σ (G1.chg e2 a1 (.lst (r2.append (.one hp)))) ⟨fun _ _ h => h, fun _ _ h => h⟩
        · exact h2.elim
      · exact h2.elim
  · exact h.elim
/-- a mutable thing of the store is changed -/
theorem Good.chgM {g : G} {a : Addr} {o : HO} {d : Z.D} {k : Nat} (G0 : Good g w0 w ρ s σ) (ea : w.al[k]? = some a) (r : RO g w o d) : Good g w0 (w.up a o) ρ (s.set k d) σ := by
  have ra : ∀ {o' d}, RO g w o' d → RO g (w.up a o) o' d := fun r => by
    cases r with
    | lst r => exact .lst r
    | ins c r => exact .ins c r
  have hm : a ∈ w.al := List.mem_of_getElem? ea
  have hk : k < s.length := by rw [G0.base.sl]; exact (List.getElem?_eq_some_iff.mp ea).1
  refine ⟨⟨fun b u' e' => ?_, by rw [List.length_set]; exact G0.base.sl, fun k' b e' => ?_, G0.base.nd⟩, ⟨G0.ext.pa, G0.ext.hf, fun b u' e' na => ?_, G0.ext.an⟩, G0.new, G0.len, G0.im, fun j d2 e' => ?_, G0.br, G0.dis, G0.xc⟩
  · obtain ⟨f1, f2⟩ := G0.base.fz b u' e'
    refine ⟨?_, f2⟩
    show upd _ _ _ _ = _
    rw [upd_ne (fun z => f2 (by rw [z]; exact hm))]; exact f1
  · have e' : w.al[k']? = some b := e'
    by_cases hkk : k = k'
    · subst hkk
      rw [ea] at e'
      cases e'
      exact ⟨d, o, List.getElem?_set_self hk, upd_same, ra r⟩
    · obtain ⟨d2, u2, f1, f2, f3⟩ := G0.base.st k' b e'
      refine ⟨d2, u2, by rw [List.getElem?_set_ne hkk]; exact f1, ?_, ra f3⟩
      show upd _ _ _ _ = _
      rw [upd_ne (fun z => hkk (by
        obtain ⟨h1, e1⟩ := List.getElem?_eq_some_iff.mp ea
        obtain ⟨h2, e2⟩ := List.getElem?_eq_some_iff.mp e'
        exact (List.getElem_inj G0.base.nd).mp (e1.trans (z.symm.trans e2.symm))))]; exact f2
  · show upd _ _ _ _ = _
    by_cases hb : b = a
    · subst hb
      -- an object of the entry that is not the entry's mutable: it would be new
      rw [G0.ext.an b hm na] at e'; cases e'
    · rw [upd_ne hb]; exact G0.ext.hh b u' e' na
  · obtain ⟨b, u2, f1, f2, f3, f4, f5, f6⟩ := G0.ow j d2 e'
    have ne : b ≠ a := fun z => f5 (by rw [z]; exact hm)
    exact ⟨b, u2, f1, by show upd _ _ _ _ = _; rw [upd_ne ne]; exact f2, ra f3, f4, f5, f6⟩
/-- x[k] = e -/
theorem s_seti {x k e : Expr} {sp : Pos} (h0 : PS X (.Assign [.Subscript x k sp] e pos) (tAsg (tI F T.g W .k p) (gSub (tVar i) (tI F T.g W k2 q) rSetL))) : PS X (.Assign [.Subscript x k sp] e pos) (tS F T.g W (.seti i q p)) := PS.imp h0 fun D σ H ⟨w0, w, ρ, s, e, G0, h⟩ => by
  subst e
  unfold ex at h
  refine tI_mono (fl_bind (kq := .k) G0 h) fun y H1 ⟨w1, d, ρ1, s1, M, hp, h1⟩ => ?_
  obtain ⟨rfl, G1, S1, O1⟩ := M
  have hp : Rw T.g w1 y d := hp
  split at h1
  · rename_i ds e1
    obtain ⟨a, o, a1, a2, a3, a4, a5, a6⟩ := G1.ow i _ e1
    refine ⟨.ref a, a1, ?_⟩
    refine tI_mono (fl_bind (kq := k2) G1 h1) fun z H2 ⟨w2, d2, ρ2, s2, M, hq, h2⟩ => ?_
    obtain ⟨rfl, G2, S2, O2⟩ := M
    have t := hq.tr G2.ext
    cases d2 with
    | int n =>
      cases t.int
      dsimp only at h2
      split at h2
      · rename_i j es e3 e4
        split at h2
        · rename_i hl
          obtain ⟨b, o2, b1, b2, b3, b4, b5, b6⟩ := G2.ow i _ e4
          rw [a1] at b1
          cases b1
          cases b3 with
          | lst r2 =>
            rename_i vs2
            refine ⟨a, vs2, n, j, rfl, rfl, b2, by rw [r2.length, hl]; exact e3, ?_⟩
            exact h2 (w2.up a (.lst (vs2.set j y))) σ (G2.chg e4 a1 (.lst (r2.set j (S2.r hp)))) ⟨fun _ _ h => h, fun _ _ h => h⟩
        · exact h2.elim
      · exact h2.elim
    | _ => exact h2.elim
  · rename_i r e1
    obtain ⟨v, a1, a2⟩ := G1.im i _ e1
    cases a2 with
    | mref hm =>
      rename_i a
      refine ⟨.ref a, a1, ?_⟩
      refine tI_mono (fl_bind (kq := k2) G1 h1) fun z H2 ⟨w2, d2, ρ2, s2, M, hq, h2⟩ => ?_
      obtain ⟨rfl, G2, S2, O2⟩ := M
      have t := hq.tr G2.ext
      split at h2
      · rename_i n es e2
        cases t.int
        cases e3 : ixN es.length n with
        | none => rw [e3] at h2; exact h2.elim
        | some j =>
          rw [e3] at h2
          have hm2 := S2.al _ _ hm
          obtain ⟨d3, o, f1, f2, f3⟩ := G2.base.st r a hm2
          rw [e2] at f1
          cases f1
          cases f3 with
          | lst r2 =>
            rename_i vs2
            refine ⟨a, vs2, n, j, rfl, rfl, f2, by rw [r2.length]; exact e3, ?_⟩
            exact h2 (w2.up a (.lst (vs2.set j y))) σ (G2.chgM hm2 (.lst (r2.set j (S2.r hp)))) ⟨fun _ _ h => h, fun _ _ h => h⟩
      · exact h2.elim
  · exact h1.elim
end
end Z

namespace Z
open PySem PySem.Spec PyProof.Rows L2
section
variable {F : Fs} {T : Tb} {N : List Str} {sc : Scope} {ow : Str → Bool} {W : WX} {X : Cx} {p q pa pb pc : Ex} {w0 w w1 w2 w' : Ws} {ρ ρ1 : En} {s s1 s' : List D} {σ : L2.St} {H : Hp} {Q : VK} {k1 k2 k3 : Kd} {kk : Kd} {ms : List Bool} {ps : List Ex}
/-! ### gcd -/
theorem r_gcd {a b : Expr} {pp pos : Pos} (hg : Gl X "gcd") (hm : X.mg "gcd" = some (.builtin "math.gcd")) (sa : notStar a = true) (sb : notStar b = true) (ha : PE X a (tI F T.g W k1 pa)) (hb : PE X b (tI F T.g W k2 pb)) :
    PE X (.Call (.Name "gcd" pp) [a, b] [] pos) (tI F T.g W .k (.gcd pa pb)) := by
  have h0 := pe_callBfun (pos := pos) (p := pp) cr_gcd hg hm (pa_cons ha (pa_cons hb pa_nil (starEach_of sb _ _)) (starEach_of sa _ _)) (by decide +kernel) (starEach_of sa _ _) (noStars (by rw [List.all_cons, sb]; rfl) _ _)
  refine PE.imp h0 fun σ H Q ⟨w0, w, ρ, s, e, G0, h⟩ => ?_
  subst e
  unfold ev at h
  simp only [fin_f] at h
  show tI F T.g W k1 pa σ w.H fun x H1 => tI F T.g W k2 pb σ H1 fun y H2 => rGcd [x, y] H2 Q
  refine tI_mono (go_bind (kq := k1) G0 h) fun x H1 ⟨w1, dx, ρ1, s1, M, px, h1⟩ => ?_
  obtain ⟨rfl, G1, S1, O1⟩ := M
  refine tI_mono (go_bind (kq := k2) G1 h1) fun y H2 ⟨w2, dy, ρ2, s2, M, py, h2⟩ => ?_
  obtain ⟨rfl, G2, S2, O2⟩ := M
  show rGcd [x, y] w2.H Q
  split at h2
  · rename_i i j _
    have tx := (px.tr G1.ext).int
    have ty := (py.tr G2.ext).int
    subst tx
    subst ty
    exact ⟨i, j, rfl, Go.here G2 h2 (.int _)⟩
  · exact h2.elim
/-! ### isinstance with several types -/
theorem tyx_all {g : G} {v : V} {d : D} (B : Base g w s) (t : Tr g w v d) {ty0 : Ty} {b0 : Bool} (h0 : isTy d ty0 = some b0) : ∃ tv, TyX g.K w.H v tv ∧ ∀ ty b, isTy d ty = some b → PySem.W.kitOne g.K tv (.type (tyB ty)) = some b := by
  have lst : ∀ {a : Addr} {xs : List V}, w.H a = some (.lst xs) → TyX g.K w.H (.ref a) (.type "list") := fun h => .base (.lst h)
  cases d with
  | non =>
    cases t.non
    refine ⟨_, .base .non, fun ty b h => ?_⟩
    cases ty <;> (simp only [isTy] at h; first | (cases h; done) | (cases h; exact kit_ty (by decide +kernel)))
  | bl x =>
    cases t.bl
    refine ⟨_, .base (.bl x), fun ty b h => ?_⟩
    cases ty <;> (simp only [isTy] at h; first | (cases h; done) | (cases h; exact kit_ty (by decide +kernel)))
  | int x =>
    cases t.int
    refine ⟨_, .base (.int x), fun ty b h => ?_⟩
    cases ty <;> (simp only [isTy] at h; first | (cases h; done) | (cases h; exact kit_ty (by decide +kernel)))
  | str x =>
    cases t.str
    refine ⟨_, .base (.str x), fun ty b h => ?_⟩
    cases ty <;> (simp only [isTy] at h; first | (cases h; done) | (cases h; exact kit_ty (by decide +kernel)))
  | tup xs =>
    obtain ⟨a, ys, rfl, h1, r, _⟩ := t.tup B
    have hx : TyX g.K w.H (.ref a) (.type "tuple") := by
      rcases h1 with (h1 | ⟨o, h1⟩) | ⟨o, its, n, h1, h2, _⟩
      · exact .base (.tup h1)
      · exact .fTuple h1
      · exact .kTuple h1 h2
    refine ⟨_, hx, fun ty b h => ?_⟩
    cases ty <;> (simp only [isTy] at h; first | (cases h; done) | (cases h; exact kit_ty (by decide +kernel)))
  | lst xs =>
    obtain ⟨a, ys, rfl, h1, r⟩ := t.lst B
    refine ⟨_, lst h1, fun ty b h => ?_⟩
    cases ty <;> (simp only [isTy] at h; first | (cases h; done) | (cases h; exact kit_ty (by decide +kernel)))
  | dic =>
    obtain ⟨a, kvs, rfl, h1⟩ := t.dic B
    refine ⟨_, .base (.dK h1), fun ty b h => ?_⟩
    cases ty <;> (simp only [isTy] at h; first | (cases h; done) | (cases h; exact kit_ty (by decide +kernel)))
  | scr _ => cases ty0 <;> cases h0
  | obj _ _ => cases ty0 <;> cases h0
  | mref _ => cases ty0 <;> cases h0
theorem kitAny_of {g : G} {d : D} {tv : Value} (h : ∀ ty b, isTy d ty = some b → PySem.W.kitOne g.K tv (.type (tyB ty)) = some b) : ∀ {ts : List Ty} {b : Bool}, isTys d ts = some b → PySem.W.kitAny g.K tv (ts.map fun t => .type (tyB t)) = some b
  | [], b, e => by cases e; rfl
  | t :: ts, b, e => by
    have e' : (match isTy d t, isTys d ts with | some true, some _ => some true | some false, r => r | _, _ => none) = some b := e
    show (match PySem.W.kitOne g.K tv (.type (tyB t)) with | some true => some true | some false => PySem.W.kitAny g.K tv (ts.map fun t => .type (tyB t)) | none => none) = some b
    cases q : isTy d t with
    | none => rw [q] at e'; cases e'
    | some b1 =>
      rw [q] at e'
      rw [h t b1 q]
      cases b1 with
      | true =>
        cases q2 : isTys d ts with
        | none => rw [q2] at e'; cases e'
        | some b2 => rw [q2] at e'; exact e'
      | false => exact kitAny_of h (ts := ts) e'
theorem isTys_first {d : D} {t : Ty} {ts : List Ty} {b : Bool} (e : isTys d (t :: ts) = some b) : ∃ b0, isTy d t = some b0 := by
  have e' : (match isTy d t, isTys d ts with | some true, some _ => some true | some false, r => r | _, _ => none) = some b := e
  cases q : isTy d t with
  | none => rw [q] at e'; cases e'
  | some b1 => exact ⟨b1, rfl⟩
def tyNames (es : List Expr) (ts : List Ty) : Prop := Paired (fun e t => ∃ p2, e = .Name (tyN t) p2) es ts
theorem pa_tys {es : List Expr} {ts : List Ty} (h : tyNames es ts) (hx : ∀ t ∈ ts, tyOk t = true ∧ Gl X (tyN t) ∧ X.mg (tyN t) = none) : PA X es (fun σ H Q => Q (ts.map fun t => V.ty (tyB t)) H) := by
  induction h with
  | nil => exact pa_nil
  | @cons e t es ts he _ ih =>
    obtain ⟨p2, rfl⟩ := he
    obtain ⟨h1, h2, h3⟩ := hx t (by simp)
    have hty : PE X (.Name (tyN t) p2) (tC (.ty (tyB t))) := pe_bltn h2 h3 (ty_boot h1) rfl (by cases t <;> first | (cases h1; done) | decide +kernel) (by cases t <;> first | (cases h1; done) | decide +kernel)
    have := pa_cons hty (ih fun t' ht => hx t' (by simp [ht])) (starEach_of rfl _ _)
    exact PA.imp this fun σ H Q h => h
theorem clsV_all : ∀ (ts : List Ty), Paired ClsV (ts.map fun t => V.ty (tyB t)) (ts.map fun t => Value.type (tyB t))
  | [] => .nil
  | t :: ts => .cons (.ty _) (clsV_all ts)
theorem r_isiT {a : Expr} {es : List Expr} {ts : List Ty} {kt : Nat} {pp p2 pos : Pos} (K : X.K = T.g.K) (hx : ∀ t ∈ ts, tyOk t = true ∧ Gl X (tyN t) ∧ X.mg (tyN t) = none) (h0 : ts ≠ []) (hl : ts.length ≤ 100000) (hes : tyNames es ts) (hg : Gl X "isinstance") (hm : X.mg "isinstance" = none) (hst : notStar a = true) (ha : PE X a (tI F T.g W k1 pa)) :
    PE X (.Call (.Name "isinstance" pp) [a, .Tuple es kt p2] [] pos) (tI F T.g W .k (.isi pa ts)) := by
  have h0' := pe_callB (pos := pos) (p := pp) (X := X) (e := a) (es := [.Tuple es kt p2]) call_isiT hg hm (show bootBuiltins "isinstance" = some (.builtin "isinstance") by decide +kernel) (pa_cons (es := [.Tuple es kt p2]) ha (pa_cons (e := .Tuple es kt p2) (pe_tup (pa_tys hes hx)) pa_nil (starEach_of rfl _ _)) (starEach_of hst _ _)) (by decide +kernel) (by decide +kernel) (starEach_of hst _ _) (by rfl)
  refine PE.imp h0' fun σ H Q ⟨w0, w, ρ, s, e, G0, h⟩ => ?_
  subst e
  unfold ev at h
  simp only [fin_f] at h
  refine tI_mono (go_bind (kq := k1) G0 h) fun x H1 ⟨w1, d, ρ1, s1, M, px, h1⟩ => ?_
  obtain ⟨rfl, G1, S1, O1⟩ := M
  cases q : isTys d ts with
  | none => rw [q] at h1; exact h1.elim
  | some b =>
    rw [q] at h1
    refine ⟨by rw [List.length_map]; exact Nat.le_trans hl (by decide), fun tp hp => ?_⟩
    have G2 := G1.upF (o := .tup (ts.map fun t => V.ty (tyB t))) hp
    have S2 : Step w1 (w1.upF tp (.tup (ts.map fun t => V.ty (tyB t)))) := step_upF G1.base hp
    have tx := (px.tr G1.ext).step S2
    cases ts with
    | nil => exact absurd rfl h0
    | cons t ts =>
      obtain ⟨b0, q0⟩ := isTys_first q
      obtain ⟨tv, ty, ko⟩ := tyx_all G2.base tx q0
      refine ⟨x, tp, _, tv, _, b, rfl, upd_same, clsV_all _, by rw [K]; exact ty, by rw [K]; exact kitAny_of ko q, h1 (.bl b) _ G2 S2 (Os.refl _) (.bl b)⟩
/-! ### a dict of written ints -/
def litI : Expr → Option Int
  | .Constant (.int i) _ _ => some i
  | _ => none
def litKs : List (Option Expr) → List Expr → Option (List (Int × Int))
  | [], [] => some []
  | some k :: ks, v :: vs => match litI k, litI v, litKs ks vs with
    | some i, some j, some r => some ((i, j) :: r)
    | _, _, _ => none
  | _, _ => none
theorem litI_ok {e : Expr} {i : Int} (h : litI e = some i) : PE X e (tC (.int i)) := by
  unfold litI at h
  split at h
  · cases h; exact pe_int
  · cases h
def litTr (l : List (Int × Int)) : List (TE × TE) := l.map fun p => (tC (.int p.1), tC (.int p.2))
theorem litKs_ok {pos : Pos} : ∀ {ks : List (Option Expr)} {vs : List Expr} {l : List (Int × Int)}, litKs ks vs = some l → PPs X pos ks vs (litTr l) ∧ ks.all (·.isSome) = true ∧ ks.length = vs.length ∧ ks.length = l.length
  | [], [], l, h => by cases h; exact ⟨pps_nil, rfl, rfl, rfl⟩
  | some k :: ks, v :: vs, l, h => by
    have h' : (match litI k, litI v, litKs ks vs with | some i, some j, some r => some ((i, j) :: r) | _, _, _ => none) = some l := h
    split at h'
    · rename_i i j r h1 h2 h3
      cases h'
      obtain ⟨a1, a2, a3, a4⟩ := litKs_ok (pos := pos) h3
      exact ⟨pps_cons (litI_ok h1) (litI_ok h2) a1, by rw [List.all_cons, a2]; rfl, by simp [a3], by simp [a4]⟩
    · cases h'
  | [], _ :: _, l, h => by cases h
  | none :: _, _, l, h => by cases h
  | some _ :: _, [], l, h => by cases h
theorem lit_pairs : ∀ {l : List (Int × Int)} {σ : L2.St} {H : Hp} {Q : List (V × V) → Hp → Prop}, Q (l.map fun p => (V.int p.1, V.int p.2)) H → tPairs (litTr l) σ H Q
  | [], σ, H, Q, h => h
  | p :: l, σ, H, Q, h => lit_pairs (l := l) (Q := fun ps H3 => Q ((V.int p.1, V.int p.2) :: ps) H3) h
theorem upd_upd' {H : Hp} {a : Addr} {o u : HO} : upd (upd H a o) a u = upd H a u := upd_upd
theorem r_dic {ks : List (Option Expr)} {vs : List Expr} {pos : Pos} {l : List (Int × Int)} (h : litKs ks vs = some l) (h0 : l ≠ []) (hl : l.length ≤ 15) : PE X (.Dict ks vs pos) (tI F T.g W .k .dicE) := by
  obtain ⟨a1, a2, a3, a4⟩ := litKs_ok (X := X) (pos := pos) h
  refine PE.imp (pe_disp a1 a2 a3 (fun z => h0 (by rw [z] at a4; exact List.length_eq_zero_iff.mp a4.symm)) (by omega)) fun σ H Q ⟨w0, w, ρ, s, e, G0, h⟩ => ?_
  subst e
  unfold ev at h
  simp only [fin_f] at h
  intro p hp
  refine lit_pairs ⟨upd_same, l.map fun p => (.inl p.1, V.int p.2), ?_, by rw [List.length_map]; exact hl, ?_⟩
  · rw [List.map_map]
    rfl
  · rw [upd_upd']
    exact Go.newK G0 h (fun p hp => .dic upd_same) p hp
theorem r_dic0 {pos : Pos} : PE X (.Dict [] [] pos) (tI F T.g W .k .dicE) := PE.imp pe_dnewK fun σ H Q ⟨w0, w, ρ, s, e, G0, h⟩ => by
  subst e
  unfold ev at h
  simp only [fin_f] at h
  intro p hp
  exact Go.newK G0 h (fun p hp => .dic upd_same) p hp
end
end Z

namespace Z
open PySem PySem.Spec PyProof.Rows L2
/-! ### errors -/
/-- what an own error class says -/
structure KC (K : PySem.W.Frag) (C : Addr) : Prop where
  xf : XfC K C
  cls : (PySem.W.clsIn K C).isSome = true
  ha : PySem.W.findIn K (.ref C) "__class__" = some (some (.builtin "object.__class__"))
  hn : PySem.W.specialIn K (.builtin "object.__class__") "__get__" = some (some (.builtin "getset_descriptor.__get__"))
  ht : PySem.W.takesIn K (.builtin "object.__class__") = some true
  hm : PySem.W.mroIn K C (.type "object") = some true
/-- a class by its name -/
inductive CN (T : Tb) (x : Str) : Value → Prop
  | own {C : Addr} : T.mg x = some (.ref C) → CN T x (.ref C)
  | blt {s : String} : T.mg x = none → bootBuiltins x = some (.type s) → x ≠ "__name__" → CN T x (.type s)
def RaiseGood (T : Tb) (x : Str) (k : Nat) (fs : List Str) : Prop := ∀ {F : Fs} {N : List Str} {sc : Scope} {ow : Str → Bool} {W : WX} {X : Cx}, Ok T N sc ow W X → ∀ {es : List Expr} {ps : List Ex} {p pos pos2 : Pos}, es.length = fs.length → es.all notStar = true → ps.length = es.length → Gl X x → (x == ("__debug__" : Str)) = false →
  PA X es (tA F T.g W (List.replicate es.length false) ps) → PS X (.Raise (some (.Call (.Name x p) es [] pos)) none pos2) (tS F T.g W (.rai k fs ps))
section
variable {X : Cx} {a C : Addr} {oe : Obj} {d : Option Addr} {pn : List (Addr × Obj)}
def rIsX (K : PySem.W.Frag) (C a : Addr) (d : Option Addr) : List V → Hp → VK → Prop := fun xs H Q => ∃ (c : V) (cv : Value) (b : Bool), xs = [.ref a, c] ∧ (∀ u, RelV c u → u = cv) ∧ PySem.W.kitOne K (.ref C) cv = some b ∧ (d = none ∨ ∃ dd fs, d = some dd ∧ H dd = some (.xd fs)) ∧ Q (.bl b) H
theorem call_isX (k : KC X.K C) (hz : Zc (.ref C) d oe) (hf : ∃ vs, oe.data = .fields vs) : CallR (X.suite a ((a, oe) :: pn)) (.builtin "isinstance") (rIsX X.K C a d) := by
  intro pins s σ H xs us Q I r h
  obtain ⟨c, cv, b, rfl, hcv, e, hd, q⟩ := h
  cases r with
  | cons rx rr =>
    cases rr with
    | cons rt rr =>
      cases rr
      cases rx
      have ec := hcv _ rt
      subst ec
      obtain ⟨hget, _⟩ := I.pin (a, oe) (List.mem_append.mpr (.inl List.mem_cons_self))
      obtain ⟨vs, hv⟩ := hf
      have J : ∃ od, PySem.W.InstAt s.heap a oe C od := by
        rcases hd with rfl | ⟨dd, fs, rfl, hh⟩
        · refine ⟨none, ?_⟩
          obtain ⟨oc, od, oda, osl⟩ := oe
          obtain ⟨h1, h2⟩ := hz
          dsimp only at h1 h2 hv
          subst h1 h2 hv
          exact ⟨hget, rfl, rfl, trivial⟩
        · have hx : ObjOk X.prog X.w H s.heap dd (.xd fs) := I.hok dd _ hh
          obtain ⟨mA, hns, hr⟩ := hx
          obtain ⟨od, ho, hl⟩ := lookIn_ns hns
          exact ⟨some od, hget, hz.1, by unfold PySem.W.notCls; rw [hv] <;> rfl, by rw [hz.2]; exact ho⟩
      obtain ⟨od, J⟩ := J
      exact PySem.W.kia_one (PySem.W.kitx_exc k.cls k.xf.ga k.xf.gg k.xf.exC k.ha k.hn k.ht k.hm) I.kIn J e (fun z => nomatch z) fun tk => ⟨.bl b, H, I.kept (t' := tk) fun _ _ z => z, rfl, q⟩
end
/-- the context of an except suite -/
structure SuX (T : Tb) (N : List Str) (sc : Scope) (X : Cx) : Prop where
  K : X.K = T.g.K
  mg : X.mg = T.mg
  hN : X.N = N
  sc : X.env.scope = sc
  su : ∀ a d k, T.g.xa = some (a, d, k) → ∃ (Y : Cx) (oe : Obj) (pn : List (Addr × Obj)) (C : Addr), X = Y.suite a ((a, oe) :: pn) ∧ T.g.cl k = some C ∧ Zc (.ref C) d oe ∧ ∃ vs, oe.data = .fields vs
section
variable {F : Fs} {T : Tb} {N : List Str} {sc : Scope} {ow : Str → Bool} {W : WX} {X : Cx} {p q pa pb pc : Ex} {w0 w w1 w2 w' : Ws} {ρ ρ1 : En} {s s1 s' : List D} {σ : L2.St} {H : Hp} {Q : VK} {k1 k2 k3 : Kd} {kk : Kd} {ms : List Bool} {ps : List Ex} {i : Nat} {n : Str}
theorem r_fx {f : Str} {p2 pos : Pos} (S : SuX T N sc X) (hi : N[i]? = some n) (hv : Vis X.env.scope n) (hd : (n == ("__debug__" : Str)) = false) (hcd : (n == ("__classdict__" : Str)) = false) (hf : ∀ (k : Nat) C, T.g.cl k = some C → XfC T.g.K C ∧ PySem.W.findIn T.g.K (.ref C) f = some none) :
    PE X (.Attribute (.Name n p2) f pos) (tI F T.g W .k (.fx i f)) := by
  refine ⟨fun pins s0 σ H Q I ⟨w0, w, ρ, s, e, G0, h⟩ => ?_⟩
  subst e
  unfold ev at h
  simp only [fin_f] at h
  split at h
  · rename_i c fs e1
    obtain ⟨a, d, ea, es, xd⟩ := G0.xc i c fs e1
    obtain ⟨Y, oe, pn, C, rfl, hC, hz, hfl⟩ := S.su a d c ea
    obtain ⟨x1, x2⟩ := hf c C hC
    have hn : (Y.suite a ((a, oe) :: pn)).N[i]? = some n := by rw [S.hN]; exact hi
    have K := S.K
    refine (pe_xf (d := d) (cls := .ref C) (n := f) (pos := pos) (by rw [show Y.K = T.g.K from K]; exact x1) (by rw [show Y.K = T.g.K from K]; exact x2) hz hfl (pe_var (pos := p2) hn hv hd hcd)).run pins s0 σ w.H Q I ?_
    cases q : fs.lookup f with
    | none => rw [q] at h; exact h.elim
    | some dd =>
      rw [q] at h
      rcases xd with ⟨_, e2⟩ | ⟨dx, fv, e2, hh, r⟩
      · rw [e2] at q; cases q
      · obtain ⟨v, hl, rv⟩ := r.get q
        exact ⟨_, es, rfl, rfl, dx, fv, v, e2, (G0.base.fz _ _ hh).1, hl, Go.here G0 h rv⟩
  · exact h.elim
theorem pe_cn {t : Str} {cv : Value} {p2 : Pos} (h : CN T t cv) (hg : Gl X t) (hm : X.mg = T.mg) (hd : (t == ("__debug__" : Str)) = false) : ∃ v, PE X (.Name t p2) (tC v) ∧ ∀ u, RelV v u → u = cv := by
  cases h with
  | own e => exact ⟨.ref _, pe_glob hg (by rw [hm]; exact e) rfl hd, fun u h => h⟩
  | blt e1 e2 e3 => exact ⟨.ty _, pe_bltn hg (by rw [hm]; exact e1) e2 rfl e3 hd, fun u h => h⟩
theorem r_isx {t : Str} {cv : Value} {ks : List Nat} {pp p2 p3 pos : Pos} (S : SuX T N sc X) (hi : N[i]? = some n) (hv : Vis X.env.scope n) (hd : (n == ("__debug__" : Str)) = false) (hcd : (n == ("__classdict__" : Str)) = false) (hg : Gl X "isinstance") (hm : X.mg "isinstance" = none)
    (hgt : Gl X t) (hdt : (t == ("__debug__" : Str)) = false) (ht : CN T t cv) (hk : ∀ (k : Nat) C, T.g.cl k = some C → KC T.g.K C ∧ PySem.W.kitOne T.g.K (.ref C) cv = some (ks.contains k)) :
    PE X (.Call (.Name "isinstance" pp) [.Name n p2, .Name t p3] [] pos) (tI F T.g W .k (.isx i ks)) := by
  refine ⟨fun pins s0 σ H Q I ⟨w0, w, ρ, s, e, G0, h⟩ => ?_⟩
  subst e
  unfold ev at h
  simp only [fin_f] at h
  split at h
  · rename_i c fs e1
    obtain ⟨a, d, ea, es, xd⟩ := G0.xc i c fs e1
    obtain ⟨v, pv, uv⟩ := pe_cn (p2 := p3) ht hgt S.mg hdt
    obtain ⟨Y, oe, pn, C, rfl, hC, hz, hfl⟩ := S.su a d c ea
    obtain ⟨x1, x2⟩ := hk c C hC
    have hn : (Y.suite a ((a, oe) :: pn)).N[i]? = some n := by rw [S.hN]; exact hi
    have K := S.K
    have hx := call_isX (X := Y) (a := a) (pn := pn) (d := d) (by rw [show Y.K = T.g.K from K]; exact x1) hz hfl
    refine (pe_callB (pos := pos) (p := pp) hx hg hm (show bootBuiltins "isinstance" = some (.builtin "isinstance") by decide +kernel) (pa_cons (pe_var (pos := p2) hn hv hd hcd) (pa_cons pv pa_nil (starEach_of rfl _ _)) (starEach_of rfl _ _)) (by decide +kernel) (by decide +kernel) (starEach_of rfl _ _) (by rfl)).run pins s0 σ w.H Q I ?_
    refine ⟨_, es, v, cv, ks.contains c, rfl, uv, by rw [show Y.K = T.g.K from K]; exact x2, ?_, Go.here G0 h (.bl _)⟩
    rcases xd with ⟨e2, _⟩ | ⟨dx, fv, e2, hh, r⟩
    · exact .inl e2
    · exact .inr ⟨dx, fv, e2, (G0.base.fz _ _ hh).1⟩
  · exact h.elim
end
/-! ### __init__ of an error with one field, with two -/
def spI1 (K : PySem.W.Frag) (f : Str) : Sp := fun vs H Q _ => ∃ (a C : Addr) (y : V), vs = [.ref a, y] ∧ OexC K C ∧ PySem.W.findIn K (.ref C) f = some none ∧ H a = some (exo a C none) ∧
  ∀ dx, H dx = none → dx ≠ a → Q .non (upd (upd H dx (exd dx [(f, y)])) a (exo a C (some dx)))
section
variable {P : Program} {w : World} {K : PySem.W.Frag} {mg : Str → Option Value} {base : Heap}
theorem init1_ok {qual s v : Str} {params : Arguments} {scope : Scope} {f : Addr} {fd : FuncData} {x fld : Str} {p1 p2 p3 p4 : Pos} (FN : FunD K x qual params [.Assign [.Attribute (.Name s p1) fld p2] (.Name v p3) p4] scope [] [] f fd) (S : FnScope [s, v] [s, v] scope)
    (ds : (s == ("__debug__" : Str)) = false) (cs : (s == ("__classdict__" : Str)) = false) (dv : (v == ("__debug__" : Str)) = false) (cv : (v == ("__classdict__" : Str)) = false) :
    FnOk P w K mg base CX0 1 f fd [s, v] (spI1 K fld) := by
  refine FN.ok S (fun vs H Q E ⟨a, C, y, e, _⟩ => by rw [e]; rfl) fun cdv A outer sh H vs Q E hr h => ?_
  obtain ⟨a, C, y, rfl, T, hno, ha, q⟩ := h
  have vis : ∀ z ∈ [s, v], Vis scope z := fun z hz => (S.par z hz).elim .inl fun e => .inr (.inl e)
  refine ⟨_, pss_one (ps_ost (pe_var (i := 0) rfl (vis s (by simp)) ds cs) (pe_var (i := 1) rfl (vis v (by simp)) dv cv) rfl), ?_⟩
  exact ⟨y, rfl, .ref a, rfl, a, C, rfl, T, hno, .inl ⟨ha, fun dx h1 h2 => q dx h1 h2⟩⟩
end
section
variable {F : Fs} {T : Tb} {N : List Str} {sc : Scope} {ow : Str → Bool} {W : WX} {X : Cx} {p q pa pb pc : Ex} {w0 w w1 w2 w' : Ws} {ρ ρ1 : En} {s s1 s' : List D} {σ : L2.St} {H : Hp} {Q : VK} {k1 k2 k3 : Kd} {kk : Kd} {ms : List Bool} {ps : List Ex} {i : Nat} {n : Str}
theorem del_upd {H : Hp} {a dx : Addr} {o o1 o2 u : HO} (ha : H a = none) (hne : dx ≠ a) (hx : HO) : upd (del (upd (upd (upd H a o) dx o1) a o2) a) dx u = upd H dx u := by
  funext b
  by_cases hb : b = dx
  · rw [hb, upd_same, upd_same]
  · rw [upd_ne hb, upd_ne hb]
    by_cases hba : b = a
    · rw [hba, del_same, ha]
    · rw [del_ne hba, upd_ne hba, upd_ne hb, upd_ne hba]
theorem rai1 {x fld : Str} {s v : Str} {C fI : Addr} {k kl : Nat} {fd : FuncData} (hC : T.g.cl k = some C) (hm : T.mg x = some (.ref C)) (OX : OexC T.g.K C) (iC : PySem.W.findIn T.g.K (.ref C) "__init__" = some (some (.ref fI))) (tI : PySem.W.typeIn T.g.K (.ref fI) = some (.type "function"))
    (hno : PySem.W.findIn T.g.K (.ref C) fld = some none) (FO : FnOk T.P T.w T.g.K T.mg T.base CX0 kl fI fd [s, v] (spI1 T.g.K fld)) (hb : Binds T.g.K fd [s, v] []) (hk : kl + 1 ≤ T.k) : RaiseGood T x k [fld] := by
  intro F N sc ow W X ok es ps p pos pos2 hl hst _ hg hdb ha
  obtain ⟨e, rfl⟩ : ∃ e, es = [e] := by
    match es, hl with
    | [e], _ => exact ⟨e, rfl⟩
  rw [List.all_cons] at hst
  obtain ⟨h1, h2⟩ := Bool.and_eq_true_iff.mp hst
  obtain ⟨eP, ew, eK, em, eb, calm, eN, _, _, room, _, tk, _⟩ := ok
  have FO2 : FnOk X.prog X.w X.K X.mg X.base CX0 kl fI fd [s, v] (spI1 X.K fld) := by rw [eP, ew, eK, em, eb]; exact FO
  have h0 := ps_raise (pos := pos2) calm tk (pmk_oex (p := p) (pos := pos) (dvs := []) (ds := []) (by rw [eK]; exact OX) (by rw [eK]; exact iC) (by rw [eK]; exact tI) FO2 (room.mono hk) (by rw [eK]; exact hb) .nil (fun _ _ _ _ _ _ _ h => h.elim) hg (by rw [em]; exact hm) ha hdb (starEach_of h1 [] X.env) (noStars h2 _ _))
  refine PS.imp h0 fun D σ H ⟨w0, w, ρ, s, eh, G0, h⟩ => ?_
  subst eh
  have e0 : ex F (.rai k [fld] ps) ρ s = (evs F ps ρ s).fl fun ds ρ s => if ds.length = [fld].length then .exc k ([fld].zip ds).reverse ρ s else .bad := by unfold ex; rfl
  rw [e0] at h
  show tA F T.g W _ ps σ w.H _
  refine ⟨w0, w, ρ, s, rfl, G0, ?_⟩
  cases q : evs F ps ρ s with
  | bad => rw [q] at h; exact h
  | exc c fs ρ' s' => rw [q] at h; exact fun C d w' a => h C d w' σ a
  | ok ds ρ1 s1 =>
    rw [q, OutL.fl_ok] at h
    intro vs w1 G1 S1 O1 hp
    split at h
    · rename_i hdl
      obtain ⟨d, rfl⟩ : ∃ d, ds = [d] := by
        match ds, hdl with
        | [d], _ => exact ⟨d, rfl⟩
      obtain ⟨y, rfl, r⟩ : ∃ y, vs = [y] ∧ Rw T.g w1 y d := by
        cases hp with
        | k r t => cases t; exact ⟨_, rfl, r⟩
      refine ⟨by simp, fun a ha0 => ⟨a, C, y, rfl, by rw [eK]; exact OX, by rw [eK]; exact hno, upd_same, fun dx hdx hne => ⟨rfl, dx, [(fld, y)], upd_same, by rw [upd_ne hne, upd_same], ?_, ?_⟩⟩⟩
      · rw [upd_ne hne] at hdx; exact hdx
      · rw [upd_ne hne] at hdx
        rw [del_upd ha0 hne (.xd [])]
        have S2 : Step w1 (w1.upF dx (.xd [(fld, y)])) := step_upF G1.base hdx
        exact h C (some dx) (w1.upF dx (.xd [(fld, y)])) σ (G1.upF hdx) hC (.inr ⟨dx, _, rfl, upd_same, .cons (S2.r r) .nil⟩)
    · exact h.elim
end
end Z

namespace Z
open PySem PySem.Spec PyProof.Rows L2
/-! ### __init__ of an error with any number of fields: self.f = p, one behind another -/
def compIni (N : List Str) (s : Str) : List Stmt → Option (List (Str × Nat))
  | [] => some []
  | .Assign [.Attribute (.Name x _) f _] (.Name v _) _ :: r => if x = s then match N.idxOf? v, compIni N s r with
    | some i, some l => some ((f, i) :: l)
    | _, _ => none else none
  | _ => none
def tIni (K : PySem.W.Frag) : List (Str × Nat) → TS
  | [] => tNext
  | (f, i) :: r => tSeq (tOst K f (tVar 0) (tVar i)) (tIni K r)
section
variable {X : Cx} {N : List Str} {s : Str}
theorem idxOf_get {N : List Str} {v : Str} {i : Nat} (h : N.idxOf? v = some i) : N[i]? = some v := by
  unfold List.idxOf? at h
  obtain ⟨hi, h1, _⟩ := List.findIdx?_eq_some_iff_getElem.mp h
  rw [List.getElem?_eq_getElem hi]
  exact congrArg some (eq_of_beq h1)
theorem pss_ini (hN : X.N = N) (h0 : N[0]? = some s) (vis : ∀ z ∈ N, Vis X.env.scope z) (db : ∀ z ∈ N, (z == ("__debug__" : Str)) = false ∧ (z == ("__classdict__" : Str)) = false) : ∀ {b : List Stmt} {l : List (Str × Nat)}, compIni N s b = some l → PSs X b (tIni X.K l)
  | [], l, h => by cases h; exact pss_nil
  | a :: r, l, h => by
    unfold compIni at h
    split at h
    · rename_i heq; cases heq
    · rename_i x px f pa v pv pos r' heq
      cases heq
      split at h
      · rename_i hx
        have hx' := hx.symm
        subst hx'
        split at h
        · rename_i i l' h1 h2
          cases h
          have hi := idxOf_get h1
          have m0 := List.mem_of_getElem? h0
          have mi := List.mem_of_getElem? hi
          exact pss_cons (ps_ost (pe_var (by rw [hN]; exact h0) (vis _ m0) (db _ m0).1 (db _ m0).2) (pe_var (by rw [hN]; exact hi) (vis _ mi) (db _ mi).1 (db _ mi).2) rfl) (pss_ini hN h0 vis db h2)
        · cases h
      · cases h
    · cases h
end
/-- what such an __init__ promises: its fields fs, the values as they came -/
def spI (K : PySem.W.Frag) (fs : List Str) : Sp := fun vs H Q _ => ∃ (a C : Addr) (ys : List V), vs = .ref a :: ys ∧ ys.length = fs.length ∧ OexC K C ∧ (∀ f ∈ fs, PySem.W.findIn K (.ref C) f = some none) ∧ H a = some (exo a C none) ∧
  ∀ dx, H dx = none → dx ≠ a → Q .non (upd (upd H dx (exd dx (fs.zip ys).reverse)) a (exo a C (some dx)))
theorem upd_move {H : Hp} {a dx : Addr} {o o1 o2 : HO} (h : dx ≠ a) : upd (upd (upd H dx o1) a o) dx o2 = upd (upd H dx o2) a o := by
  funext b
  by_cases h1 : b = a
  · subst h1
    rw [upd_ne (Ne.symm h), upd_same, upd_same]
  · by_cases h2 : b = dx
    · subst h2
      rw [upd_same, upd_ne h1, upd_same]
    · rw [upd_ne h2, upd_ne h1, upd_ne h2, upd_ne h1, upd_ne h2]
/-- the fields that are left, the dict standing -/
theorem ini_rest {K : PySem.W.Frag} {a C dx : Addr} {σ : L2.St} {H : Hp} {D : Ends} (T : OexC K C) (ha : σ[0]? = some (some (.ref a))) (hne : dx ≠ a) : ∀ {l : List (Str × Nat)} {ys : List V} {acc : List (Str × V)}, (∀ p ∈ l, PySem.W.findIn K (.ref C) p.1 = some none) → acc.length + l.length ≤ 900 →
    l.length = ys.length → (∀ (k : Nat) p y, l[k]? = some p → ys[k]? = some y → σ[p.2]? = some (some y)) → D.nx σ (upd (upd H dx (exd dx (((l.map (·.1)).zip ys).reverse ++ acc))) a (exo a C (some dx))) → tIni K l D σ (upd (upd H dx (exd dx acc)) a (exo a C (some dx)))
  | [], ys, acc, _, _, hl, _, h => by
    cases ys with
    | cons _ _ => cases hl
    | nil => exact h
  | (f, i) :: l, ys, acc, hf, hn, hl, hv, h => by
    cases ys with
    | nil => cases hl
    | cons y ys =>
      simp only [List.length_cons] at hn hl
      refine ⟨y, hv 0 (f, i) y rfl rfl, .ref a, ha, a, C, rfl, T, hf (f, i) (by simp), .inr ⟨dx, acc, upd_same, by rw [upd_ne hne, upd_same], by omega, ?_⟩⟩
      show tIni K l D σ _
      rw [upd_move hne]
      refine ini_rest T ha hne (l := l) (ys := ys) (acc := (f, y) :: acc) (fun p hp => hf p (by simp [hp])) (by simp only [List.length_cons]; omega) (by omega) (fun k p y' e1 e2 => hv (k + 1) p y' (by simpa using e1) (by simpa using e2)) ?_
      simpa using h
theorem ini_all {K : PySem.W.Frag} {a C : Addr} {σ : L2.St} {H : Hp} {D : Ends} (T : OexC K C) (ha : σ[0]? = some (some (.ref a))) (hH : H a = some (exo a C none)) {l : List (Str × Nat)} {ys : List V} (h0 : l ≠ []) (hf : ∀ p ∈ l, PySem.W.findIn K (.ref C) p.1 = some none) (hn : l.length ≤ 800) (hl : l.length = ys.length)
    (hv : ∀ (k : Nat) p y, l[k]? = some p → ys[k]? = some y → σ[p.2]? = some (some y)) (h : ∀ dx, H dx = none → dx ≠ a → D.nx σ (upd (upd H dx (exd dx ((l.map (·.1)).zip ys).reverse)) a (exo a C (some dx)))) : tIni K l D σ H := by
  match l, ys, h0, hl with
  | (f, i) :: l, y :: ys, _, hl =>
    simp only [List.length_cons] at hn hl
    refine ⟨y, hv 0 (f, i) y rfl rfl, .ref a, ha, a, C, rfl, T, hf (f, i) (by simp), .inl ⟨hH, fun dx h1 h2 => ?_⟩⟩
    show tIni K l D σ _
    refine ini_rest T ha h2 (l := l) (ys := ys) (acc := [(f, y)]) (fun p hp => hf p (by simp [hp])) (by simp only [List.length_singleton]; omega) (by omega) (fun k p y' e1 e2 => hv (k + 1) p y' (by simpa using e1) (by simpa using e2)) ?_
    have := h dx h1 h2
    simpa using this
/-- the slots of the parameters, one behind another -/
def okIni (N : List Str) (l : List (Str × Nat)) : Bool := decide (l.map (·.2) = (List.range l.length).map (· + 1)) && decide (N.length = l.length + 1) && !l.isEmpty && decide (l.length ≤ 10) && N.all fun z => !(z == ("__debug__" : Str)) && !(z == ("__classdict__" : Str))
section
variable {P : Program} {w : World} {K : PySem.W.Frag} {mg : Str → Option Value} {base : Heap}
theorem ini_ok {qual x s : Str} {N : List Str} {params : Arguments} {scope : Scope} {body : List Stmt} {f : Addr} {fd : FuncData} {l : List (Str × Nat)} {fs : List Str} (FN : FunD K x qual params body scope [] [] f fd) (S : FnScope N N scope) (h0 : N[0]? = some s) (hc : compIni N s body = some l) (ho : okIni N l = true) (hfs : l.map (·.1) = fs) :
    FnOk P w K mg base CX0 1 f fd N (spI K fs) := by
  unfold okIni at ho
  simp only [Bool.and_eq_true, decide_eq_true_eq, Bool.not_eq_true', List.all_eq_true] at ho
  obtain ⟨⟨⟨⟨o1, o2⟩, o3⟩, o4⟩, o5⟩ := ho
  have hlf : fs.length = l.length := by rw [← hfs, List.length_map]
  refine FN.ok S (fun vs H Q E ⟨a, C, ys, e, hl, _⟩ => by rw [e, List.length_cons, hl, hlf, o2]) fun cdv A outer sh H vs Q E hr h => ?_
  obtain ⟨a, C, ys, rfl, hl, T, hno, ha, q⟩ := h
  have vis : ∀ z ∈ N, Vis scope z := fun z hz => (S.par z hz).elim .inl fun e => .inr (.inl e)
  refine ⟨_, pss_ini rfl h0 vis (fun z hz => by have := o5 z hz; exact this) hc, ?_⟩
  have hst : ∀ (k : Nat) y, ys[k]? = some y → (L2.start N (.ref a :: ys))[k + 1]? = some (some y) := fun k y e => by
    have hk := (List.getElem?_eq_some_iff.mp e).1
    unfold L2.start
    rw [List.getElem?_append_left (by simp; omega), List.getElem?_map, List.getElem?_cons_succ, e]
    rfl
  refine ini_all T rfl ha (l := l) (ys := ys) (fun z => by rw [z] at o3; cases o3) (fun p hp => hno p.1 (by rw [← hfs]; exact List.mem_map.mpr ⟨p, hp, rfl⟩)) (by omega) (by omega) (fun k p y e1 e2 => ?_) fun dx h1 h2 => ?_
  · have hk := (List.getElem?_eq_some_iff.mp e1).1
    have e3 : (l.map (·.2))[k]? = some p.2 := by rw [List.getElem?_map, e1]; rfl
    rw [o1, List.getElem?_map, List.getElem?_range hk] at e3
    have e4 : p.2 = k + 1 := (Option.some.inj e3).symm
    rw [e4]
    exact hst k y e2
  · rw [hfs]
    exact q dx h1 h2
end
section
variable {F : Fs} {T : Tb} {N : List Str} {sc : Scope} {ow : Str → Bool} {W : WX} {X : Cx} {w w' : Ws} {σ : L2.St} {H : Hp}
theorem rf_of {g : G} {w : Ws} : ∀ {fs : List Str} {vs : List V} {ds : List D} {ms : List Bool}, Ps g w ms vs ds → ms.all (· == false) = true → vs.length = fs.length → Rf g.K g.ol w.al w.Hf (fs.zip vs) (fs.zip ds)
  | [], vs, ds, ms, h, _, hl => by
    cases vs with
    | cons _ _ => cases hl
    | nil => cases h; exact .nil
  | f :: fs, vs, ds, ms, h, hm, hl => by
    cases h with
    | nil => cases hl
    | k r t =>
      rw [List.all_cons] at hm
      exact .cons r (rf_of t (Bool.and_eq_true_iff.mp hm).2 (by simpa using hl))
    | b r t =>
      rw [List.all_cons] at hm
      exact absurd (Bool.and_eq_true_iff.mp hm).1 (by simp)
theorem rf_app {K : PySem.W.Frag} {cl : Nat → Option Addr} {al : List Addr} {H : Hp} : ∀ {a c : List (Str × V)} {b d : List (Str × D)}, Rf K cl al H a b → Rf K cl al H c d → Rf K cl al H (a ++ c) (b ++ d)
  | _, _, _, _, .nil, s => s
  | _, _, _, _, .cons r t, s => .cons r (rf_app t s)
theorem rf_rev {K : PySem.W.Frag} {cl : Nat → Option Addr} {al : List Addr} {H : Hp} : ∀ {a : List (Str × V)} {b : List (Str × D)}, Rf K cl al H a b → Rf K cl al H a.reverse b.reverse
  | _, _, .nil => .nil
  | _, _, .cons r t => by
    rw [List.reverse_cons, List.reverse_cons]
    exact rf_app (rf_rev t) (.cons r .nil)
theorem raiN {x : Str} {NI : List Str} {fs : List Str} {C fI : Addr} {k kl : Nat} {fd : FuncData} (hC : T.g.cl k = some C) (hm : T.mg x = some (.ref C)) (OX : OexC T.g.K C) (iC : PySem.W.findIn T.g.K (.ref C) "__init__" = some (some (.ref fI))) (tI : PySem.W.typeIn T.g.K (.ref fI) = some (.type "function"))
    (hno : ∀ f ∈ fs, PySem.W.findIn T.g.K (.ref C) f = some none) (FO : FnOk T.P T.w T.g.K T.mg T.base CX0 kl fI fd NI (spI T.g.K fs)) (hb : Binds T.g.K fd NI []) (hk : kl + 1 ≤ T.k) (h0 : fs ≠ []) (hn : fs.length ≤ 10) : RaiseGood T x k fs := by
  intro F N sc ow W X ok es ps p pos pos2 hl hst hpl hg hdb ha
  obtain ⟨e, es', rfl⟩ : ∃ e es', es = e :: es' := by
    match es, hl with
    | e :: es', _ => exact ⟨e, es', rfl⟩
    | [], hl => exact absurd (List.length_eq_zero_iff.mp hl.symm) h0
  rw [List.all_cons] at hst
  obtain ⟨h1, h2⟩ := Bool.and_eq_true_iff.mp hst
  obtain ⟨eP, ew, eK, em, eb, calm, eN, _, _, room, _, tk, _⟩ := ok
  have FO2 : FnOk X.prog X.w X.K X.mg X.base CX0 kl fI fd NI (spI X.K fs) := by rw [eP, ew, eK, em, eb]; exact FO
  have hp := ps_raise (pos := pos2) calm tk (pmk_oex (p := p) (pos := pos) (dvs := []) (ds := []) (by rw [eK]; exact OX) (by rw [eK]; exact iC) (by rw [eK]; exact tI) FO2 (room.mono hk) (by rw [eK]; exact hb) .nil (fun _ _ _ _ _ _ _ h => h.elim) hg (by rw [em]; exact hm) ha hdb (starEach_of h1 es' X.env) (noStars h2 _ _))
  refine PS.imp hp fun D σ H ⟨w0, w, ρ, s, eh, G0, h⟩ => ?_
  subst eh
  have e0 : ex F (.rai k fs ps) ρ s = (evs F ps ρ s).fl fun ds ρ s => if ds.length = fs.length then .exc k (fs.zip ds).reverse ρ s else .bad := by unfold ex; rfl
  rw [e0] at h
  show tA F T.g W _ ps σ w.H _
  refine ⟨w0, w, ρ, s, rfl, G0, ?_⟩
  cases q : evs F ps ρ s with
  | bad => rw [q] at h; exact h
  | exc c fs ρ' s' => rw [q] at h; exact fun C d w' a => h C d w' σ a
  | ok ds ρ1 s1 =>
    rw [q, OutL.fl_ok] at h
    intro vs w1 G1 S1 O1 hps
    split at h
    · rename_i hdl
      have hvl : vs.length = fs.length := by rw [hps.length, hdl]
      have rf := rf_of (fs := fs) hps (by rw [List.all_eq_true]; intro b hb; rw [List.eq_of_mem_replicate hb]; rfl) hvl
      refine ⟨by omega, fun a ha0 => ⟨a, C, vs, by rw [List.append_nil], hvl, by rw [eK]; exact OX, by rw [eK]; exact hno, upd_same, fun dx hdx hne => ⟨rfl, dx, (fs.zip vs).reverse, upd_same, by rw [upd_ne hne, upd_same], ?_, ?_⟩⟩⟩
      · rw [upd_ne hne] at hdx; exact hdx
      · rw [upd_ne hne] at hdx
        rw [del_upd ha0 hne (.xd [])]
        have S2 : Step w1 (w1.upF dx (.xd (fs.zip vs).reverse)) := step_upF G1.base hdx
        exact h C (some dx) (w1.upF dx (.xd (fs.zip vs).reverse)) σ (G1.upF hdx) hC (.inr ⟨dx, _, rfl, upd_same, rf_rev (S2.rf rf)⟩)
    · exact h.elim
/-! ### an error without fields -/
theorem pmk_own0 {x : Str} {C : Addr} {bmB : List Value} {B newId initId : String} {p pos : Pos} (F : ExcBaseFacts B newId initId bmB) (q : PySem.W.excIn X.K C bmB newId = true) (gC : X.mg x = some (.ref C)) (kC : PySem.W.keepIn X.K (.ref C) = true) (r : Raises X (.ref C)) (hg : Gl X x)
    (hdb : (x == ("__debug__" : Str)) = false) : PMk X (.Call (.Name x p) [] [] pos) (fun _ H Q => Q (.ref C) none H) := by
  intro pins s σ H Q I h
  refine wpAny_Call_Name_kw (ld_glob I hg gC ?_ hdb)
  refine PySem.W.callWith_K0 I.kIn kC ?_
  show wpAny _ _ (call (.ref C) []) _ _ _
  obtain ⟨bm, N, nm, qn, bs, hdct, sn, sub, ab, col, dd, k0, k1, k2, k3, k5, mN, hC, hN, hni, T⟩ := exc_obj I.kIn q
  refine wpAny_call_exc_subT F T hC hN hni (fun h' e hm => ?_) (Nat.zero_le _)
  exact mk_of I hm r h (I.hok.gone hm.new)
theorem rai0 {x : Str} {C : Addr} {k : Nat} (hC : T.g.cl k = some C) (hm : T.mg x = some (.ref C)) (q : PySem.W.excIn T.g.K C [.type "ValueError", .type "Exception", .type "BaseException", .type "object"] "ValueError.__new__" = true) (eC : PySem.W.subIn T.g.K (.ref C) (.type "BaseException") = some true) (tC : PySem.W.typeIn T.g.K (.ref C) = some (.type "type")) (kC : PySem.W.keepIn T.g.K (.ref C) = true) : RaiseGood T x k [] := by
  intro F N sc ow W X ok es ps p pos pos2 hl hst hpl hg hdb ha
  cases es with
  | cons _ _ => cases hl
  | nil =>
  obtain ⟨eP, ew, eK, em, eb, calm, eN, _, _, room, _, tk, _⟩ := ok
  refine PS.imp (ps_raise (pos := pos2) calm tk (pmk_own0 (p := p) (pos := pos) PySem.F.excBase_ValueError (by rw [eK]; exact q) (by rw [em]; exact hm) (by rw [eK]; exact kC) (raises_own (by rw [eK]; exact eC) (by rw [eK]; exact tC)) hg hdb)) fun D σ H ⟨w0, w, ρ, s, eh, G0, h⟩ => ?_
  subst eh
  have e0 : ex F (.rai k [] ps) ρ s = (evs F ps ρ s).fl fun ds ρ s => if ds.length = ([] : List Str).length then .exc k (([] : List Str).zip ds).reverse ρ s else .bad := by unfold ex; rfl
  rw [e0] at h
  cases ps with
  | nil => exact h C none w σ G0 hC (.inl ⟨rfl, rfl⟩)
  | cons a b => cases hpl
end
end Z

namespace Z
open PySem PySem.Spec PyProof.Rows L2
/-! from the text to the plain machine -/
structure CT where
  N : List Str
  calls : List CE
  consts : List (Str × D)
  blts : List Str
  fr : Bool := false
  gcd : Bool := false
  rais : List (Str × Nat × List Str) := []
  exn : List (Str × List Nat) := []
  flds : List Str := []
  rep : Bool := false
  dcts : List (Str × List (Str × Option Int)) := []
def idx : List Str → Str → Option Nat
  | [], _ => none
  | y :: ys, x => if y = x then some 0 else (idx ys x).map (· + 1)
theorem idx_ok : ∀ {N : List Str} {x : Str} {i : Nat}, idx N x = some i → N[i]? = some x
  | [], _, _, h => by cases h
  | y :: ys, x, i, h => by
    unfold idx at h
    split at h
    · rename_i e
      cases h
      rw [e]; rfl
    · obtain ⟨j, e, rfl⟩ := Option.map_eq_some_iff.mp h
      exact idx_ok (N := ys) e
def visB (sc : Scope) (x : Str) : Bool := match sc.names.lookup x with
  | some .local => true
  | some .cell => true
  | some .free => true
  | _ => false
def locB (sc : Scope) (x : Str) : Bool := match sc.names.lookup x with
  | some .local => true
  | some .cell => true
  | _ => false
def glB (sc : Scope) (x : Str) : Bool := match sc.names.lookup x with
  | some .globalImplicit => true
  | _ => false
def dbB (x : Str) : Bool := !(x == ("__debug__" : Str)) && !(x == ("__classdict__" : Str)) && !(x == ("__name__" : Str))
def boOf : Operator → Option Bo
  | .Add => some .add | .Sub => some .sub | .Mult => some .mul | .FloorDiv => some .fdiv | .Mod => some .mod | .Pow => some .pow
  | _ => none
theorem boOf_ok {o : Operator} {b : Bo} (h : boOf o = some b) : o = boO b := by cases o <;> cases h <;> rfl
def coOf : CmpOp → Option Co
  | .Eq => some .eq | .NotEq => some .ne | .Lt => some .lt | .LtE => some .le | .Gt => some .gt | .GtE => some .ge | .Is => some .isN | .IsNot => some .notN | .In => some .inn | .NotIn => some .nin
theorem coOf_ok {o : CmpOp} {b : Co} (h : coOf o = some b) : o = coO b := by cases o <;> cases h <;> rfl
def bfOf2 (x : Str) (n : Nat) : Option Bf := if x = "max" ∧ n = 1 then some .maxl else if x = "min" ∧ n = 1 then some .minl else if x = "repr" ∧ n = 1 then some .repr else none
def bfOf (x : Str) (n : Nat) : Option Bf :=
  if x = "len" then some .len else if x = "sum" then some .sum else if x = "int" then some .int else if x = "tuple" then some .tuple else if x = "list" then some .list
  else if x = "max" ∧ n = 2 then some .max2 else if x = "min" ∧ n = 2 then some .min2 else if x = "abs" then some .abs else if x = "str" ∧ n = 1 then some .str else if x = "all" ∧ n = 1 then some .all else if x = "any" ∧ n = 1 then some .any else bfOf2 x n
def tyOf (x : Str) : Option Ty :=
  if x = "int" then some .int else if x = "bool" then some .bool else if x = "str" then some .str else if x = "list" then some .list else if x = "tuple" then some .tuple else none
def lsty : Expr → Bool
  | .List _ _ => true
  | .ListComp .. => true
  | .Call (.Name x _) _ _ _ => x == ("list" : Str)
  | .BinOp a .Add b _ => lsty a || lsty b
  | _ => false
def notSlice : Expr → Bool
  | .Slice .. => false
  | _ => true
def notSet : Expr → Bool
  | .Set .. => false
  | _ => true
def bopE (op : BoolOp) (p q : Ex) : Ex := match op with
  | .And => .an p q
  | .Or => .orr p q
def compBs (f : Bool → Expr → Option Ex) (op : BoolOp) : List Expr → Option Ex
  | [] => none
  | [a] => f false a
  | a :: rest => match f true a, compBs f op rest with
    | some p, some q => some (bopE op p q)
    | _, _ => none
def compAs (f : Bool → Expr → Option Ex) : List Bool → List Expr → Option (List Ex)
  | _, [] => some []
  | m :: ms, e :: es => if notStar e then match f m e, compAs f ms es with
    | some p, some ps => some (p :: ps)
    | _, _ => none else none
  | [], _ :: _ => none
def callIx : List CE → Str → Nat → List (Option Str) → Option CE
  | [], _, _, _ => none
  | c :: cs, x, n, ks => if c.x = x ∧ c.n = n ∧ ks = c.ks.map some then some c else callIx cs x n ks
theorem callIx_ok : ∀ {cs : List CE} {x : Str} {n : Nat} {ks : List (Option Str)} {c : CE}, callIx cs x n ks = some c → c ∈ cs ∧ c.x = x ∧ c.n = n ∧ ks = c.ks.map some
  | [], _, _, _, _, h => by cases h
  | c0 :: cs, x, n, ks, c, h => by
    unfold callIx at h
    split at h
    · rename_i e
      cases h
      exact ⟨by simp, e.1, e.2.1, e.2.2⟩
    · obtain ⟨a, b⟩ := callIx_ok (cs := cs) h
      exact ⟨by simp [a], b⟩
mutual
def compTg (N : List Str) (sc : Scope) (ow : Str → Bool) : Nat → Expr → Option Tg
  | 0, _ => none
  | n + 1, .Name x _ => if locB sc x && ow x && dbB x then (idx N x).map .nm else none
  | n + 1, .Tuple es _ _ => (compTgs N sc ow n es).map .tp
  | _, _ => none
def compTgs (N : List Str) (sc : Scope) (ow : Str → Bool) : Nat → List Expr → Option (List Tg)
  | 0, _ => none
  | n + 1, [] => some []
  | n + 1, e :: es => if notStar e then match compTg N sc ow n e, compTgs N sc ow n es with
    | some t, some ts => some (t :: ts)
    | _, _ => none else none
end
def ownOf (N : List Str) (scope : Scope) : List (Str × Nat) := scope.names.filterMap fun (x, k) => match k with
  | .local => (idx N x).map (x, ·)
  | .cell => (idx N x).map (x, ·)
  | _ => none
def frzOf (N : List Str) (scope : Scope) : List Nat := scope.names.filterMap fun (x, k) => match k with
  | .free => idx N x
  | _ => none
def owB (scope sc : Scope) (x : Str) : Bool := (scope.names.lookup x == some .cell) || ((relS scope sc).names.lookup x == some .local)
def allIn (a b : List Nat) : Bool := a.all fun x => b.contains x
def compTys (c : CT) (sc : Scope) : List Expr → Option (List Ty)
  | [] => some []
  | .Name t _ :: es => match tyOf t, compTys c sc es with
    | some ty, some ts => if glB sc t && c.blts.contains t then some (ty :: ts) else none
    | _, _ => none
  | _ => none
def compGcd (c : CT) (f : Bool → Expr → Option Ex) : List Expr → Option Ex
  | [a, b] => match f true a, f true b with
    | some p, some q => if c.gcd then some (.gcd p q) else none
    | _, _ => none
  | _ => none
def compDic (ks : List (Option Expr)) (vs : List Expr) : Option Ex := match litKs ks vs with
  | some [] => if vs.isEmpty then some .dicE else none
  | some (p :: l) => if l.length < 15 then some .dicE else none
  | _ => none
def compIsi (c : CT) (sc : Scope) (f : Bool → Expr → Option Ex) (x : Str) : List Expr → Option Ex
  | [a, .Name t _] => match tyOf t, f true a with
    | some ty, some p => if glB sc t && c.blts.contains t && c.blts.contains x then some (.isi p [ty]) else none
    | _, _ => none
  | [a, .Tuple (e :: es) _ _] => match compTys c sc (e :: es), f true a with
    | some ts, some p => if c.blts.contains x && decide (ts.length ≤ 100) && !ts.isEmpty then some (.isi p ts) else none
    | _, _ => none
  | _ => none
def compBlt (c : CT) (f : Bool → Expr → Option Ex) (x : Str) : List Expr → Option Ex
  | [] => none
  | e :: es => match bfOf x (es.length + 1) with
    | some b => if c.blts.contains x && (c.rep || !(x == ("repr" : Str))) then (compAs f (List.replicate (es.length + 1) true) (e :: es)).map (.blt b) else none
    | none => none
def compSl (f : Bool → Expr → Option Ex) : Option Expr → Option (Bool × Ex)
  | none => some (false, .c .non)
  | some e => (f true e).map (true, ·)
def compJoin (f : Bool → Expr → Option Ex) (x m : Str) (ap pos : Pos) : List Expr → Option Ex
  | [e] => if m = "join" ∧ notStar e = true ∧ (ap.endLine == pos.line) = true then (f true e).map (.joi x) else none
  | _ => none
def compGet (c : CT) (sc : Scope) (f : Bool → Expr → Option Ex) (x m : Str) (ap pos : Pos) : List Expr → Option Ex
  | [e] => if m = "get" ∧ notStar e = true ∧ (ap.endLine == pos.line) = true ∧ glB sc x = true ∧ dbB x = true then match c.dcts.lookup x, f true e with
    | some kvs, some p => some (.blt (.dget kvs) [p])
    | _, _ => none else none
  | _ => none
def compIx (f : Bool → Expr → Option Ex) (a i : Expr) : Option Ex := match i with
  | .Slice lo hi none _ => match f true a, compSl f lo, compSl f hi with
    | some p, some (u, q), some (v, r) => some (.sli u v p q r)
    | _, _, _ => none
  | i => if notSlice i then match f true a, f true i with
    | some p, some q => some (.ix p q)
    | _, _ => none else none
def compKw (c : CT) (sc : Scope) (f : Bool → Expr → Option Ex) (x : Str) (es : List Expr) (kws : List Keyword) : Option Ex :=
  if glB sc x && dbB x && es.all notStar then match callIx c.calls x es.length (kws.map (·.arg)) with
    | some ce => match compAs f ce.ms es, compAs f (ce.ms.drop ce.n) (kws.map (·.value)) with
      | some ps, some qs => some (.call ce.ck ce.ms (ps ++ qs))
      | _, _ => none
    | none => none else none
/-- an iterable, for this target -/
def compFIg (c : CT) (f : Bool → Expr → Option Ex) (g : Expr → Option It) (sc : Scope) (tg it : Expr) : Option It := match tg, it with
  | .Tuple _ _ _, .Call (.Name x _) [a] [] _ => if x = "enumerate" then (if glB sc x && c.blts.contains x && notStar a then (f false a).map .enm else none) else g it
  | _, it => g it
/-- a clause's test -/
def compO (f : Expr → Option Ex) : List Expr → Option (Option Ex)
  | [] => some none
  | [t] => (f t).map some
  | _ => none
section
variable (c : CT)
mutual
def compE : Nat → Scope → Bool → Expr → Option Ex
  | 0, _, _, _ => none
  | n + 1, sc, b, e => match e with
    | .Constant k _ _ => match k with
      | .int i => some (.c (.int i))
      | .bool x => some (.c (.bl x))
      | .none => some (.c .non)
      | .str x => some (.c (.str x))
      | _ => none
    | .Name x _ => if dbB x then (if visB sc x then (idx c.N x).map (fun i => if b then .bv i else .v i) else if glB sc x then (c.consts.lookup x).map .c else none) else none
    | .Tuple es _ _ => (compAs (compE n sc) (List.replicate es.length false) es).map .tup
    | .List es _ => (compAs (compE n sc) (List.replicate es.length false) es).map .lst
    | .BinOp a op r _ => match boOf op, compE n sc true a, compE n sc true r with
      | some o, some p, some q => if o = .add ∧ (lsty a || lsty r) = true then some (.cat p q) else some (.bin o p q)
      | _, _, _ => none
    | .UnaryOp .USub a _ => (compE n sc true a).map .neg
    | .UnaryOp .Not a _ => (compE n sc true a).map .nt
    | .BoolOp op es _ => compBs (compE n sc) op es
    | .Compare a [o] [r] _ => match coOf o, compE n sc true a, compE n sc true r with
      | some o', some p, some q => if behindInMarks o r = false then some (.cmp o' p q) else none
      | _, _, _ => none
    | .Compare a [o, o2] [r, t] _ => match coOf o, coOf o2, compE n sc true a, compE n sc true r, compE n sc true t with
      | some o', some o2', some p, some q, some u => if lastMarks [o, o2] [r, t] = false then some (.ch o' o2' p q u) else none
      | _, _, _, _, _ => none
    | .Dict ks vs _ => compDic ks vs
    | .IfExp t a r _ => match compE n sc true t, compE n sc false a, compE n sc false r with
      | some p, some q, some u => some (.ife p q u)
      | _, _, _ => none
    | .Subscript a i _ => compIx (compE n sc) a i
    | .Call (.Attribute (.Constant (.str x) _ _) m ap) es [] pos => compJoin (compE n sc) x m ap pos es
    | .Call (.Attribute (.Name x _) m ap) es [] pos => compGet c sc (compE n sc) x m ap pos es
    | .Call (.Name x _) es kws _ => match kws with
      | k :: ks => compKw c sc (compE n sc) x es (k :: ks)
      | [] => if glB sc x && dbB x && es.all notStar then match callIx c.calls x es.length [] with
        | some ce => (compAs (compE n sc) ce.ms es).map fun ps => .call ce.ck ce.ms (ps ++ [])
        | none => if x = "isinstance" then compIsi c sc (compE n sc) x es else if x = "gcd" then compGcd c (compE n sc) es else compBlt c (compE n sc) x es else none
    | .ListComp el [⟨tg, it, ifs, 0⟩] scope _ =>
      if blkC c.N sc scope (ownOf c.N scope) && notSet it then
        match compFIg c (compE n sc) (compI n true sc) sc tg it, compTg c.N (relS scope sc) (owB scope sc) n tg, (match ifs with
          | [] => some none
          | [t] => (compE n (relS scope sc) true t).map some
          | _ => none), compE n (relS scope sc) false el with
        | some i, some t, some co, some p => if allIn (slots t) ((ownOf c.N scope).map (·.2)) then some (.lc (frzOf c.N scope) ((ownOf c.N scope).map (·.2)) t i co p) else none
        | _, _, _, _ => none
      else none
    | .ListComp el [⟨tg, it, ifs, 0⟩, ⟨tg1, it1, ifs1, 0⟩] scope _ =>
      if blkC c.N sc scope (ownOf c.N scope) && notSet it && notSet it1 then
        match compFIg c (compE n sc) (compI n true sc) sc tg it, compTg c.N (relS scope sc) (owB scope sc) n tg, compFIg c (compE n (relS scope sc)) (compI n false (relS scope sc)) (relS scope sc) tg1 it1, compTg c.N (relS scope sc) (owB scope sc) n tg1, compO (compE n (relS scope sc) true) ifs, compO (compE n (relS scope sc) true) ifs1, compE n (relS scope sc) false el with
        | some i, some t, some i1, some t1, some co, some co1, some p => if allIn (slots t) ((ownOf c.N scope).map (·.2)) && allIn (slots t1) ((ownOf c.N scope).map (·.2)) then some (.lc2 (frzOf c.N scope) ((ownOf c.N scope).map (·.2)) (slots t1) t i co t1 i1 co1 p) else none
        | _, _, _, _, _, _, _ => none
      else none
    | _ => none
def compI : Nat → Bool → Scope → Expr → Option It
  | 0, _, _, _ => none
  | n + 1, k, sc, e => match e with
    | .Call (.Name x _) [a] [] _ => if x = "range" then (if glB sc x && c.blts.contains x && notStar a then (compE n sc true a).map .rng1 else none) else (compE n sc false e).map .seq
    | .Call (.Name x _) [a, b] [] _ => if x = "range" then (if glB sc x && c.blts.contains x && notStar a && notStar b then match compE n sc true a, compE n sc true b with
      | some p, some q => some (.rng2 p q)
      | _, _ => none else none) else (compE n sc false e).map .seq
    | .Name x _ => if dbB x && visB sc x then (idx c.N x).map fun i => .seq (if k then .sv i else .v i) else (compE n sc false e).map .seq
    | _ => (compE n sc false e).map .seq
end
end
end Z

namespace Z
open PySem PySem.Spec PyProof.Rows L2
structure Tabs (T : Tb) (F : Fs) (c : CT) : Prop where
  calls : ∀ ce, ce ∈ c.calls → ∃ fn, F ce.ck = some fn ∧ CallGood T ce fn
  consts : ∀ x d, c.consts.lookup x = some d → ∃ v u, T.mg x = some u ∧ RelV v u ∧ ∀ w : Ws, Rw T.g w v d
  blts : ∀ x, x ∈ c.blts → T.mg x = none
  gcd : c.gcd = true → T.mg "gcd" = some (.builtin "math.gcd")
  rep : c.rep = true → T.gd = true := by intro h; cases h
  dcts : ∀ x kvs, c.dcts.lookup x = some kvs → DGood T x kvs := by intro x kvs h; cases h
  rais : ∀ x k fs, c.rais.lookup x = some (k, fs) → RaiseGood T x k fs
  exn : ∀ x ks, c.exn.lookup x = some ks → ∃ cv, CN T x cv ∧ ∀ (k : Nat) C, T.g.cl k = some C → PySem.W.exmOne T.g.K (.ref C) cv = some (ks.contains k) ∧ PySem.W.kitOne T.g.K (.ref C) cv = some (ks.contains k)
  kc : ∀ (k : Nat) C, T.g.cl k = some C → KC T.g.K C ∧ ∀ f ∈ c.flds, PySem.W.findIn T.g.K (.ref C) f = some none
section
variable {F : Fs} {T : Tb} {c : CT} {sc : Scope} {ow : Str → Bool} {W : WX} {X : Cx} {p q : Ex} {n : Nat}
def POk (F : Fs) (T : Tb) (W : WX) (X : Cx) (b : Bool) (e : Expr) (p : Ex) : Prop := PE X e (tI F T.g W (kd p) p) ∧ (b = false → kd p ≠ .b ∧ kd p ≠ .s) ∧ PT X e (tT F T.g W p)
def EOk (F : Fs) (T : Tb) (c : CT) (n : Nat) : Prop := ∀ sc b e p, compE c n sc b e = some p → ∀ {ow : Str → Bool} {W : WX} {X : Cx}, Ok T c.N sc ow W X → POk F T W X b e p
def IOk (F : Fs) (T : Tb) (c : CT) (n : Nat) : Prop := ∀ k sc e it, compI c n k sc e = some it → ∀ {ow : Str → Bool} {W : WX} {X : Cx}, Ok T c.N sc ow W X → ∀ tg, PI X tg e (tIt k F T.g W it)
theorem vis_of (h : visB sc x = true) (e : X.env.scope = sc) : Vis X.env.scope x := by
  rw [e]
  unfold visB at h
  split at h
  · exact .inl (by assumption)
  · exact .inr (.inl (by assumption))
  · exact .inr (.inr (by assumption))
  · cases h
theorem loc_of (h : locB sc x = true) (e : X.env.scope = sc) : Loc X.env.scope x := by
  rw [e]
  unfold locB at h
  split at h
  · exact .inl (by assumption)
  · exact .inr (by assumption)
  · cases h
theorem gl_of (h : glB sc x = true) (e : X.env.scope = sc) : Gl X x := by
  show X.env.scope.names.lookup x = some .globalImplicit
  rw [e]
  unfold glB at h
  split at h
  · assumption
  · cases h
theorem db_of {x : Str} (h : dbB x = true) : (x == ("__debug__" : Str)) = false ∧ (x == ("__classdict__" : Str)) = false ∧ x ≠ "__name__" := by
  unfold dbB at h
  simp only [Bool.and_eq_true, Bool.not_eq_true'] at h
  exact ⟨h.1.1, h.1.2, fun z => by rw [z] at h; simp at h⟩
/-- the test of a plain expression is its value's truth -/
def plainT : Expr → Bool
  | .UnaryOp .Not _ _ => false
  | .BoolOp .. => false
  | .IfExp .. => false
  | .Compare .. => false
  | _ => true
theorem isTrue_of {e : Expr} {env : PySem.Env} (h : plainT e = true) : ∀ whole, isTrue e env whole = (do let v ← whole; standAt e.pos; holding [v] (truthy v)) := by
  intro whole
  cases e with
  | UnaryOp op a pos => cases op <;> first | rfl | cases h
  | BoolOp => cases h
  | IfExp => cases h
  | Compare => cases h
  | _ => rfl
theorem pok_plain {b : Bool} {e : Expr} (ok : Ok T c.N sc ow W X) (hp : plainT e = true) (ht : ∀ ρ s, ev F p true ρ s = fin true (ev F p false ρ s)) (hk : b = false → kd p ≠ .b ∧ kd p ≠ .s) (h : PE X e (tI F T.g W (kd p) p)) : POk F T W X b e p :=
  ⟨h, hk, r_truth ht ok.K h (isTrue_of hp)⟩
theorem pok_k {e : Expr} (h : POk F T W X false e p) : PE X e (tI F T.g W .k p) := PE.imp h.1 fun _ _ _ z => tI_k (h.2.1 rfl).1 (h.2.1 rfl).2 z
/-- a test that is a comparison's own -/
theorem r_tt {e : Expr} {t : TE} (hp : ∀ ρ s, ev F p true ρ s = fin true (ev F p false ρ s)) (hb : ∀ ρ s d ρ' s', ev F p false ρ s = .ok d ρ' s' → ∃ b, d = .bl b) (ht : PT X e (tTest t)) (hi : ∀ σ H Q, tI F T.g W .k p σ H Q → t σ H Q) : PT X e (tT F T.g W p) := by
  refine PT.imp ht fun σ H Q ⟨w0, w, ρ, s, e, G0, h⟩ => ?_
  subst e
  refine hi σ w.H _ ⟨w0, w, ρ, s, rfl, G0, ?_⟩
  rw [hp] at h
  cases q : ev F p false ρ s with
  | bad => rw [q] at h; exact h
  | exc c fs ρ' s' => rw [q] at h; exact h
  | ok d ρ' s' =>
    rw [q] at h
    obtain ⟨b, rfl⟩ := hb _ _ _ _ _ q
    obtain ⟨b', e, z⟩ := h
    cases e
    intro v w' G1 S O hp
    cases hp
    exact ⟨b, rfl, z w' G1 S O⟩
theorem as_ok {f : Bool → Expr → Option Ex} (hf : ∀ b e p, f b e = some p → POk F T W X b e p) : ∀ {ms : List Bool} {es : List Expr} {ps : List Ex}, compAs f ms es = some ps → PA X es (tA F T.g W ms ps) ∧ es.all notStar = true ∧ ps.length = es.length
  | ms, [], ps, h => by
    cases ms <;> (cases h; exact ⟨r_nil, rfl, rfl⟩)
  | m :: ms, e :: es, ps, h => by
    unfold compAs at h
    split at h
    · rename_i hs
      split at h
      · rename_i p ps' h1 h2
        cases h
        obtain ⟨a1, a2, a3⟩ := as_ok hf h2
        have hp := hf _ _ _ h1
        refine ⟨?_, by rw [List.all_cons, hs, a2]; rfl, by simp [a3]⟩
        cases m with
        | false => exact r_consK hs (pok_k hp) a1
        | true => exact r_consB hs hp.1 a1
      · cases h
    · cases h
  | [], _ :: _, _, h => by cases h
theorem all_false (n : Nat) : (List.replicate n false).all (· == false) = true := by
  induction n with
  | zero => rfl
  | succ n ih => rw [List.replicate_succ, List.all_cons, ih]; rfl
/-- and, or -/
theorem bs_ok {f : Bool → Expr → Option Ex} {op : BoolOp} (hf : ∀ b e p, f b e = some p → POk F T W X b e p) : ∀ {es : List Expr} {p : Ex} {pos : Pos}, compBs f op es = some p →
    PE X (.BoolOp op es pos) (tI F T.g W .k p) ∧ PW X (.BoolOp op es pos) (tT F T.g W p)
  | [a], p, pos, h => by
    have hp := hf _ _ _ (show f false a = some p from h)
    refine ⟨pe_one (pok_k hp), ?_⟩
    cases op with
    | And => exact pw_and1 hp.2.2
    | Or => exact pw_or1 hp.2.2
  | a :: b :: rest, p, pos, h => by
    have h' : (match f true a, compBs f op (b :: rest) with
      | some p, some q => some (bopE op p q)
      | _, _ => none) = some p := h
    split at h'
    · rename_i p1 q1 h1 h2
      have hp := hf _ _ _ h1
      obtain ⟨b1, b2⟩ := bs_ok (pos := pos) hf h2
      cases h'
      cases op with
      | And => exact ⟨r_andV hp.1 b1, r_andT hp.2.2 b2⟩
      | Or => exact ⟨r_orV hp.1 b1, r_orT hp.2.2 b2⟩
    · cases h'
theorem bs_kd {f : Bool → Expr → Option Ex} {op : BoolOp} (hf : ∀ b e p, f b e = some p → POk F T W X b e p) {es : List Expr} (h : compBs f op es = some p) : kd p ≠ .b ∧ kd p ≠ .s := by
  match es, h with
  | [a], h => exact (hf _ _ _ (show f false a = some p from h)).2.1 rfl
  | a :: b :: rest, h =>
    have h' : (match f true a, compBs f op (b :: rest) with
      | some p, some q => some (bopE op p q)
      | _, _ => none) = some p := h
    split at h'
    · cases h'
      cases op <;> exact ⟨(fun z => by cases z), (fun z => by cases z)⟩
    · cases h'
theorem tI_any {kq : Kd} {e : Expr} (h1 : kd p ≠ .b ∧ kd p ≠ .s) (h : PE X e (tI F T.g W .k p)) (hk : kd p = .k) : PE X e (tI F T.g W (kd p) p) := by rw [hk]; exact h
mutual
theorem tg_ok (ok : Ok T c.N sc ow W X) : ∀ (n : Nat) {e : Expr} {t : Tg}, compTg c.N sc ow n e = some t → PG X e (gD T.g.K t)
  | 0, _, _, h => by cases h
  | n + 1, e, t, h => by
    cases e with
    | Name x pos =>
      have h' : (if locB sc x && ow x && dbB x then (idx c.N x).map Tg.nm else none) = some t := h
      split at h'
      · rename_i hc
        simp only [Bool.and_eq_true] at hc
        obtain ⟨i, e, rfl⟩ := Option.map_eq_some_iff.mp h'
        exact pg_name ok.nd (by rw [ok.hN]; exact idx_ok e) (loc_of hc.1.1 ok.sc) (ok.fn x hc.1.2)
      · cases h'
    | Tuple es k pos =>
      have h' : (compTgs c.N sc ow n es).map Tg.tp = some t := h
      obtain ⟨ts, e, rfl⟩ := Option.map_eq_some_iff.mp h'
      obtain ⟨a1, a2, a3⟩ := tgs_ok ok n e
      show PG X (.Tuple es k pos) (fun v σ H Q => gTup T.g.K ts.length (gDs T.g.K ts) v σ H Q ∨ gUnl T.g.K ts.length (gDs T.g.K ts) v σ H Q)
      rw [← ok.K] at a1 ⊢
      exact pg_or (pg_tup ok.calm a1 (by rw [a2]) a3) (pg_unl ok.calm a1 (by rw [a2]) a3)
    | _ => cases h
theorem tgs_ok (ok : Ok T c.N sc ow W X) : ∀ (n : Nat) {es : List Expr} {ts : List Tg}, compTgs c.N sc ow n es = some ts → PGs X es (gDs T.g.K ts) ∧ (assignEach es X.env).length = ts.length ∧ (assignEach es X.env).findIdx? (·.1) = none
  | 0, _, _, h => by cases h
  | n + 1, [], ts, h => by cases h; exact ⟨pgs_nil, rfl, rfl⟩
  | n + 1, e :: es, ts, h => by
    have h' : (if notStar e then match compTg c.N sc ow n e, compTgs c.N sc ow n es with
      | some t, some ts => some (t :: ts)
      | _, _ => none else none) = some ts := h
    split at h'
    · rename_i hs
      split at h'
      · rename_i t ts' h1 h2
        cases h'
        obtain ⟨a1, a2, a3⟩ := tgs_ok ok n h2
        have e1 : assignEach (e :: es) X.env = (false, assign e X.env) :: assignEach es X.env := by
          cases e <;> first | rfl | cases hs
        refine ⟨pgs_cons (tg_ok ok n h1) a1 (by rw [e1]; rfl), by rw [e1]; simp [a2], ?_⟩
        rw [e1, List.findIdx?_cons, a3]
        rfl
      · cases h'
    · cases h'
end
theorem top0 {X : Cx} {W : WX} {B : Cx} (tp : Top X W) (h1 : B.stack = X.stack) (h2 : B.env.frame = X.env.frame) : Top B W0 := by
  obtain ⟨e0, l, L, a, b, c, _⟩ := tp.at_
  exact ⟨⟨e0, l, L, h1.trans a, b, h2.trans c, fun u s' ⟨_, _, _, _, _, _, _, _, _, _, _, _, _, _, _, _, z⟩ => z.elim⟩⟩
theorem blk_of {scope : Scope} {W' : WX} {s : Shared} {H : Hp} {C : Addr} {cl : List (Str × Addr)} {fp : List Addr} {xe : Value → Shared → Prop} (ok : Ok T c.N sc ow W X) (tk : Takes (bx X s H scope cl C fp xe) W') (tp : Top (bx X s H scope cl C fp xe) W') : Ok T c.N (relS scope sc) (owB scope sc) W' (bx X s H scope cl C fp xe) := by
  have hsc : (compEnvC scope cl C X.env).scope = relS scope X.env.scope := rfl
  refine ⟨ok.P, ok.w, ok.K, ok.mg, ok.base, ok.calm, ok.hN, ok.nd, ?_, ok.room, ok.gd, tk, tp, fun x hx => ?_⟩
  · show (compEnvC scope cl C X.env).scope = _
    rw [hsc, ok.sc]
  · unfold owB at hx
    rcases Bool.or_eq_true_iff.mp hx with h | h
    · exact .inl h
    · refine .inr ?_
      show (compEnvC scope cl C X.env).scope.names.lookup x = some .local
      rw [hsc, ok.sc]
      simpa using h
theorem blk_ok {scope : Scope} {s : Shared} {H : Hp} {C : Addr} {cl : List (Str × Addr)} {fp : List Addr} (ok : Ok T c.N sc ow W X) : Ok T c.N (relS scope sc) (owB scope sc) W0 (X.blk s H scope (compEnvC scope cl C X.env) fp) :=
  blk_of (xe := fun _ _ => False) ok takes0 (top0 ok.tp rfl rfl)
theorem bx_ok {scope : Scope} {s : Shared} {H : Hp} {C : Addr} {cl : List (Str × Addr)} {fp : List Addr} {xe : Value → Shared → Prop} (ok : Ok T c.N sc ow W X) : Ok T c.N (relS scope sc) (owB scope sc) W0 (bx X s H scope cl C fp xe) :=
  blk_of ok takes0 (top0 ok.tp rfl rfl)
theorem bxX_ok {scope : Scope} {s : Shared} {H : Hp} {C : Addr} {cl : List (Str × Addr)} {fp : List Addr} {xe : Value → Shared → Prop} {E : XK} (ok : Ok T c.N sc ow W X) (bk : BlkX (bx X s H scope cl C fp xe) E) : Ok T c.N (relS scope sc) (owB scope sc) (WK E) (bx X s H scope cl C fp xe) :=
  blk_of ok bk.tk bk.tp
theorem allIn_ok {a b : List Nat} (h : allIn a b = true) : ∀ j ∈ a, j ∈ b := fun j hj => by
  have := List.all_eq_true.mp h j hj
  simpa using this
theorem fsi_of {e : Expr} (h : notSet e = true) (env : PySem.Env) (x : Value) : foldedSetIterable e env x = pure x := by
  cases e <;> first | rfl | cases h
theorem plainIx_of {e : Expr} (h : notSlice e = true) : PlainIx e := fun o i => by
  cases e <;> first | rfl | cases h
theorem kd_ne {k : Kd} (h : k = .k ∨ k = .f) : k ≠ .b ∧ k ≠ .s := by
  rcases h with rfl | rfl <;> exact ⟨by decide, by decide⟩
theorem bf_nm2 {x : Str} {n : Nat} {f : Bf} (h : bfOf2 x n = some f) : x = bfN f := by
  unfold bfOf2 at h
  split at h
  · cases h; rename_i e; exact e.1
  · split at h
    · cases h; rename_i e; exact e.1
    · split at h
      · cases h; rename_i e; exact e.1
      · cases h
theorem bf_nd {x : Str} {n : Nat} {f : Bf} (h : bfOf x n = some f) : ∀ kvs, f ≠ .dget kvs := by
  intro kvs e
  subst e
  have h2 : bfOf2 x n ≠ some (.dget kvs) := by
    unfold bfOf2
    intro h
    repeat' (split at h)
    all_goals cases h
  unfold bfOf at h
  repeat' (split at h)
  all_goals first | (cases h; done) | exact h2 h
theorem bf_nm {x : Str} {n : Nat} {f : Bf} (h : bfOf x n = some f) : x = bfN f := by
  unfold bfOf at h
  repeat' (split at h)
  all_goals first
    | (cases h; done)
    | (cases h; rename_i e; first | exact e | exact e.1)
    | exact bf_nm2 h
theorem ty_nm {x : Str} {t : Ty} (h : tyOf x = some t) : x = tyN t ∧ tyOk t = true := by
  unfold tyOf at h
  repeat' (split at h)
  all_goals first
    | (cases h; done)
    | (cases h; rename_i e; exact ⟨e, rfl⟩)
theorem name_ok {n : Nat} (tb : Tabs T F c) (ok : Ok T c.N sc ow W X) {b : Bool} {x : Str} {pos : Pos} (h : compE c (n + 1) sc b (.Name x pos) = some p) : POk F T W X b (.Name x pos) p := by
  have h' : (if dbB x then (if visB sc x then (idx c.N x).map (fun i => if b then Ex.bv i else Ex.v i) else if glB sc x then (c.consts.lookup x).map Ex.c else none) else none) = some p := h
  split at h'
  · rename_i hd
    obtain ⟨d1, d2, d3⟩ := db_of hd
    split at h'
    · rename_i hv
      obtain ⟨i, e, e2⟩ := Option.map_eq_some_iff.mp h'
      have hpv : PE X (.Name x pos) (tVar i) := pe_var (by rw [ok.hN]; exact idx_ok e) (vis_of hv ok.sc) d1 d2
      cases b with
      | true =>
        cases e2
        exact pok_plain ok rfl (fun _ _ => rfl) (fun z => by cases z) (r_bv hpv)
      | false =>
        cases e2
        exact pok_plain ok rfl (fun _ _ => rfl) (fun _ => kd_ne (.inl rfl)) (r_v hpv)
    · split at h'
      · rename_i hg
        obtain ⟨d, e, e2⟩ := Option.map_eq_some_iff.mp h'
        subst e2
        obtain ⟨v, u, m, r, rw_⟩ := tb.consts x d e
        have hpv : PE X (.Name x pos) (tC v) := pe_glob (gl_of hg ok.sc) (by rw [ok.mg]; exact m) r d1
        refine pok_plain ok rfl (fun _ _ => rfl) (fun _ => kd_ne (.inl rfl)) ?_
        refine PE.imp hpv fun σ H Q ⟨w0, w, ρ, s, e, G0, h⟩ => ?_
        subst e
        exact Go.here G0 h (rw_ w)
      · cases h'
  · cases h'
theorem cmp_bl {op : Co} {pa pb : Ex} {ρ ρ' : En} {s s' : List D} {d : D} (h : ev F (.cmp op pa pb) false ρ s = .ok d ρ' s') : ∃ b, d = .bl b := by
  unfold ev at h
  simp only [fin_f] at h
  cases q : ev F pa false ρ s with
  | bad => rw [q] at h; cases h
  | exc c fs ρ' s' => rw [q] at h; cases h
  | ok dx ρ1 s1 =>
    rw [q, Out.bind_ok] at h
    cases q2 : ev F pb false ρ1 s1 with
    | bad => rw [q2] at h; cases h
    | exc c fs ρ' s' => rw [q2] at h; cases h
    | ok dy ρ2 s2 =>
      rw [q2, Out.bind_ok] at h
      cases q3 : cmpD op dx dy with
      | none => rw [q3] at h; cases h
      | some b => rw [q3] at h; cases h; exact ⟨b, rfl⟩
theorem ch_bl {op op' : Co} {pa pb pc : Ex} {ρ ρ' : En} {s s' : List D} {d : D} (h : ev F (.ch op op' pa pb pc) false ρ s = .ok d ρ' s') : ∃ b, d = .bl b := by
  unfold ev at h
  simp only [fin_f] at h
  cases q : ev F pa false ρ s with
  | bad => rw [q] at h; cases h
  | exc c fs ρ' s' => rw [q] at h; cases h
  | ok dx ρ1 s1 =>
    rw [q, Out.bind_ok] at h
    cases q2 : ev F pb false ρ1 s1 with
    | bad => rw [q2] at h; cases h
    | exc c fs ρ' s' => rw [q2] at h; cases h
    | ok dy ρ2 s2 =>
      rw [q2, Out.bind_ok] at h
      cases q3 : cmpD op dx dy with
      | none => rw [q3] at h; cases h
      | some b =>
        rw [q3] at h
        cases b with
        | false => cases h; exact ⟨_, rfl⟩
        | true =>
          dsimp only at h
          cases q4 : ev F pc false ρ2 s2 with
          | bad => rw [q4] at h; cases h
          | exc c fs ρ' s' => rw [q4] at h; cases h
          | ok dz ρ3 s3 =>
            rw [q4, Out.bind_ok] at h
            cases q5 : cmpD op' dy dz with
            | none => rw [q5] at h; cases h
            | some b => rw [q5] at h; cases h; exact ⟨b, rfl⟩
theorem ch_hi {op op' : Co} {pa pb pc : Ex} {k1 k2 k3 : Kd} {σ : L2.St} {H : Hp} {Q : VK} (hw : tI F T.g W .k (.ch op op' pa pb pc) σ H Q) : tChain (cmpR T.g.K op) (cmpR T.g.K op') (tI F T.g W k1 pa) (tI F T.g W k2 pb) (tI F T.g W k3 pc) σ H Q := by
  obtain ⟨w0, w, ρ, s, e, G0, h⟩ := hw
  subst e
  unfold ev at h
  simp only [fin_f] at h
  refine tI_mono (go_bind (kq := k1) G0 h) fun x H1 ⟨w1, dx, ρ1, s1, M, px, h1⟩ => ?_
  obtain ⟨rfl, G1, S1, O1⟩ := M
  refine tI_mono (go_bind (kq := k2) G1 h1) fun y H2 ⟨w2, dy, ρ2, s2, M, py, h2⟩ => ?_
  obtain ⟨rfl, G2, S2, O2⟩ := M
  have tx := (px.tr G1.ext).step S2
  have ty := py.tr G2.ext
  cases q : cmpD op dx dy with
  | none => rw [q] at h2; exact h2.elim
  | some b1 =>
    rw [q] at h2
    refine cmp_ok G2.base tx ty q ⟨b1, rfl, ?_⟩
    cases b1 with
    | false => exact iteF (Go.here G2 h2 (.bl _))
    | true =>
      refine iteT (tI_mono (go_bind (kq := k3) G2 h2) fun z H3 ⟨w3, dz, ρ3, s3, M, pz, h3⟩ => ?_)
      obtain ⟨rfl, G3, S3, O3⟩ := M
      cases q3 : cmpD op' dy dz with
      | none => rw [q3] at h3; exact h3.elim
      | some b2 =>
        rw [q3] at h3
        exact cmp_ok G3.base (ty.step S3) (pz.tr G3.ext) q3 (Go.here G3 h3 (.bl _))
theorem tbad {e : Expr} (h : ∀ ρ s, ev F p true ρ s = .bad) : PT X e (tT F T.g W p) := ⟨fun _ _ _ _ _ _ ⟨w0, w, ρ, s, e, G0, z⟩ => by rw [h] at z; exact z.elim⟩
theorem tys_ok {c : CT} : ∀ {es : List Expr} {ts : List Ty}, compTys c sc es = some ts → tyNames es ts ∧ ∀ t ∈ ts, tyOk t = true ∧ glB sc (tyN t) = true ∧ tyN t ∈ c.blts
  | [], ts, h => by cases h; exact ⟨.nil, fun t h => by cases h⟩
  | e :: es, ts, h => by
    unfold compTys at h
    split at h
    · rename_i heq; cases heq
    · rename_i t p es' heq
      cases heq
      split at h
      · rename_i ty ts' h1 h2
        split at h
        · rename_i hb
          cases h
          simp only [Bool.and_eq_true, List.contains_iff_mem] at hb
          obtain ⟨n1, n2⟩ := ty_nm h1
          obtain ⟨a1, a2⟩ := tys_ok h2
          subst n1
          refine ⟨.cons ⟨_, rfl⟩ a1, fun t ht => ?_⟩
          rcases List.mem_cons.mp ht with rfl | ht
          · exact ⟨n2, hb.1, hb.2⟩
          · exact a2 t ht
        · cases h
      · cases h
    · cases h
theorem isi_ok {f : Bool → Expr → Option Ex} (tb : Tabs T F c) (hf : ∀ b e p, f b e = some p → POk F T W X b e p) (ok : Ok T c.N sc ow W X) {b : Bool} {pp pos : Pos} (hg : glB sc "isinstance" = true) {es : List Expr} (hs : es.all notStar = true) (h : compIsi c sc f "isinstance" es = some p) : POk F T W X b (.Call (.Name "isinstance" pp) es [] pos) p := by
  unfold compIsi at h
  split at h
  · rename_i a t tp
    split at h
    · rename_i ty p1 t1 t2
      split at h
      · rename_i hb
        cases h
        simp only [Bool.and_eq_true, List.contains_iff_mem] at hb
        obtain ⟨⟨b1, b2⟩, b3⟩ := hb
        obtain ⟨n1, n2⟩ := ty_nm t1
        subst n1
        have ha := hf _ _ _ t2
        rw [List.all_cons] at hs
        exact pok_plain ok rfl (fun _ _ => rfl) (fun _ => kd_ne (.inl rfl)) (r_isi ok.K n2 (gl_of hg ok.sc) (by rw [ok.mg]; exact tb.blts _ b3) (gl_of b1 ok.sc) (by rw [ok.mg]; exact tb.blts _ b2) (Bool.and_eq_true_iff.mp hs).1 ha.1)
      · cases h
    · cases h
  · rename_i a e es kt tp
    split at h
    · rename_i ts p1 t1 t2
      split at h
      · rename_i hb
        cases h
        simp only [Bool.and_eq_true, List.contains_iff_mem, decide_eq_true_eq] at hb
        obtain ⟨⟨b1, b2⟩, b3⟩ := hb
        have ha := hf _ _ _ t2
        obtain ⟨n1, n2⟩ := tys_ok t1
        rw [List.all_cons] at hs
        exact pok_plain ok rfl (fun _ _ => rfl) (fun _ => kd_ne (.inl rfl)) (r_isiT ok.K (fun t ht => by
          obtain ⟨q1, q2, q3⟩ := n2 t ht
          exact ⟨q1, gl_of q2 ok.sc, by rw [ok.mg]; exact tb.blts _ q3⟩) (fun z => by rw [z] at b3; cases b3) (by omega) n1 (gl_of hg ok.sc) (by rw [ok.mg]; exact tb.blts _ b1) (Bool.and_eq_true_iff.mp hs).1 ha.1)
      · cases h
    · cases h
  · cases h
theorem gcd_ok {f : Bool → Expr → Option Ex} (tb : Tabs T F c) (hf : ∀ b e p, f b e = some p → POk F T W X b e p) (ok : Ok T c.N sc ow W X) {b : Bool} {pp pos : Pos} (hg : glB sc "gcd" = true) {es : List Expr} (hs : es.all notStar = true) (h : compGcd c f es = some p) : POk F T W X b (.Call (.Name "gcd" pp) es [] pos) p := by
  unfold compGcd at h
  split at h
  · rename_i a b2
    split at h
    · rename_i p1 q1 h1 h2
      split at h
      · rename_i hc
        cases h
        simp only [List.all_cons, Bool.and_eq_true] at hs
        exact pok_plain ok rfl (fun _ _ => rfl) (fun _ => kd_ne (.inl rfl)) (r_gcd (gl_of hg ok.sc) (by rw [ok.mg]; exact tb.gcd hc) hs.1 hs.2.1 (hf _ _ _ h1).1 (hf _ _ _ h2).1)
      · cases h
    · cases h
  · cases h
theorem bltc_ok {f : Bool → Expr → Option Ex} (tb : Tabs T F c) (hf : ∀ b e p, f b e = some p → POk F T W X b e p) (ok : Ok T c.N sc ow W X) {b : Bool} {x : Str} {pp pos : Pos} (hg : glB sc x = true) {es : List Expr} (hs : es.all notStar = true) (h : compBlt c f x es = some p) : POk F T W X b (.Call (.Name x pp) es [] pos) p := by
  unfold compBlt at h
  split at h
  · cases h
  · rename_i e0 es0
    split at h
    · rename_i bf hbf
      split at h
      · rename_i hb
        obtain ⟨hb, hrp⟩ := Bool.and_eq_true_iff.mp hb
        obtain ⟨ps, e2, rfl⟩ := Option.map_eq_some_iff.mp h
        obtain ⟨a1, a2, a3⟩ := as_ok hf e2
        have hnd := bf_nd hbf
        have e3 := bf_nm hbf
        subst e3
        have hrep : bf = .repr → X.A.guards = some [] ∧ X.A.units + 65 < cLine := fun e => by
          subst e
          rcases Bool.or_eq_true_iff.mp hrp with z | z
          · exact ⟨ok.gd (tb.rep z), by have := ok.room.un; omega⟩
          · exact absurd z (by decide +kernel)
        have hk : kd (.blt bf ps) = .k ∨ kd (.blt bf ps) = .f := by cases bf <;> first | exact .inl rfl | exact .inr rfl
        exact pok_plain ok rfl (fun _ _ => rfl) (fun _ => kd_ne hk) (r_blt bf hnd hrep ok.K ok.calm (gl_of hg ok.sc) (by rw [ok.mg]; exact tb.blts _ (by simpa using hb)) hs a1)
      · cases h
    · cases h
theorem kw_ok {f : Bool → Expr → Option Ex} (hf : ∀ b e p, f b e = some p → POk F T W X b e p) : ∀ {ms : List Bool} {kws : List Keyword} {ps : List Ex}, compAs f ms (kws.map (·.value)) = some ps → PK X kws (tA F T.g W ms ps)
  | ms, [], ps, h => by
    cases ms <;> (cases h; exact ⟨fun pos pins s σ H Q I hw => pk_nil.run pos pins s σ H Q I (tA_nil hw)⟩)
  | m :: ms, ⟨nm, e, kp⟩ :: kws, ps, h => by
    have h' : (if notStar e then match f m e, compAs f ms (kws.map (·.value)) with
      | some p, some ps => some (p :: ps)
      | _, _ => none else none) = some ps := h
    split at h'
    · split at h'
      · rename_i p ps' h1 h2
        cases h'
        have a1 := kw_ok hf h2
        have hp := hf _ _ _ h1
        cases m with
        | false => exact ⟨fun pos pins s σ H Q I hw => (pk_cons (pok_k hp) a1).run pos pins s σ H Q I (by
            obtain ⟨w0, w, ρ, s, e, G0, h⟩ := hw
            subst e
            exact goL_cons G0 h fun _ _ _ _ _ h => h)⟩
        | true => exact ⟨fun pos pins s σ H Q I hw => (pk_cons hp.1 a1).run pos pins s σ H Q I (by
            obtain ⟨w0, w, ρ, s, e, G0, h⟩ := hw
            subst e
            exact goL_cons G0 h fun _ _ _ _ E h => h.tr E)⟩
      · cases h'
    · cases h'
  | [], _ :: _, _, h => by cases h
theorem as_len {f : Bool → Expr → Option Ex} : ∀ {ms : List Bool} {es : List Expr} {ps : List Ex}, compAs f ms es = some ps → ps.length = es.length
  | ms, [], ps, h => by cases ms <;> (cases h; rfl)
  | m :: ms, e :: es, ps, h => by
    unfold compAs at h
    split at h
    · split at h
      · rename_i p ps' h1 h2
        cases h
        simp [as_len h2]
      · cases h
    · cases h
  | [], _ :: _, _, h => by cases h
theorem callK_ok {n : Nat} (tb : Tabs T F c) (IE : EOk F T c n) (ok : Ok T c.N sc ow W X) {b : Bool} {x : Str} {pp pos : Pos} {es : List Expr} {kws : List Keyword} (h : compKw c sc (compE c n sc) x es kws = some p) : POk F T W X b (.Call (.Name x pp) es kws pos) p := by
  have hf : ∀ b e p, compE c n sc b e = some p → POk F T W X b e p := fun b e p h => IE sc b e p h ok
  unfold compKw at h
  split at h
  · rename_i hc
    simp only [Bool.and_eq_true] at hc
    obtain ⟨⟨hg, hd⟩, hs⟩ := hc
    obtain ⟨d1, d2, d3⟩ := db_of hd
    split at h
    · rename_i ce e1
      obtain ⟨c1, c2, c3, c4⟩ := callIx_ok e1
      split at h
      · rename_i ps qs e2 e3
        cases h
        obtain ⟨a1, a2, a3⟩ := as_ok hf e2
        obtain ⟨fn, f1, f2⟩ := tb.calls ce c1
        subst c2
        have lq : qs.length = kws.length := by rw [as_len e3, List.length_map]
        have lk : kws.length = ce.ks.length := by
          have := congrArg List.length c4
          simpa using this
        exact pok_plain ok rfl (fun _ _ => rfl) (fun _ => kd_ne (.inl rfl)) (r_call f1 (by rw [a3, c3]) (by rw [lq, lk]) (f2 ok c3.symm hs c4 lq (gl_of hg ok.sc) d1 a1 (kw_ok hf e3)))
      · cases h
    · cases h
  · cases h
theorem call_ok {n : Nat} (tb : Tabs T F c) (IE : EOk F T c n) (ok : Ok T c.N sc ow W X) {b : Bool} {x : Str} {pp pos : Pos} {es : List Expr} (h : compE c (n + 1) sc b (.Call (.Name x pp) es [] pos) = some p) : POk F T W X b (.Call (.Name x pp) es [] pos) p := by
  have h' : (if glB sc x && dbB x && es.all notStar then match callIx c.calls x es.length [] with
      | some ce => (compAs (compE c n sc) ce.ms es).map fun ps => Ex.call ce.ck ce.ms (ps ++ [])
      | none => if x = "isinstance" then compIsi c sc (compE c n sc) x es else if x = "gcd" then compGcd c (compE c n sc) es else compBlt c (compE c n sc) x es else none) = some p := h
  have hf : ∀ b e p, compE c n sc b e = some p → POk F T W X b e p := fun b e p h => IE sc b e p h ok
  split at h'
  · rename_i hc
    simp only [Bool.and_eq_true] at hc
    obtain ⟨⟨hg, hd⟩, hs⟩ := hc
    obtain ⟨d1, d2, d3⟩ := db_of hd
    split at h'
    · rename_i ce e1
      obtain ⟨c1, c2, c3, c4⟩ := callIx_ok e1
      obtain ⟨ps, e2, rfl⟩ := Option.map_eq_some_iff.mp h'
      obtain ⟨a1, a2, a3⟩ := as_ok hf e2
      obtain ⟨fn, f1, f2⟩ := tb.calls ce c1
      subst c2
      have lk : ce.ks.length = 0 := by
        have := congrArg List.length c4
        simpa using this.symm
      exact pok_plain ok rfl (fun _ _ => rfl) (fun _ => kd_ne (.inl rfl)) (r_call (qs := []) f1 (by rw [a3, c3]) lk.symm (f2 ok c3.symm hs c4 rfl (gl_of hg ok.sc) d1 a1 (kw_ok (kws := []) (ms := ce.ms.drop ce.n) hf (by cases ce.ms.drop ce.n <;> rfl))))
    · split at h'
      · rename_i hx
        subst hx
        exact isi_ok tb hf ok hg hs h'
      · split at h'
        · rename_i hx
          subst hx
          exact gcd_ok tb hf ok hg hs h'
        · exact bltc_ok tb hf ok hg hs h'
  · cases h'
theorem fig_ok {f : Bool → Expr → Option Ex} {gi : Expr → Option It} (tb : Tabs T F c) (hf : ∀ b e p, f b e = some p → POk F T W X b e p) {k : Bool} (hg : ∀ e i, gi e = some i → ∀ tg, PI X tg e (tIt k F T.g W i)) (ok : Ok T c.N sc ow W X) {tg it : Expr} {i : It} (h : compFIg c f gi sc tg it = some i) : PI X tg it (tIt k F T.g W i) := by
  unfold compFIg at h
  split at h
  · split at h
    · rename_i hx
      subst hx
      split at h
      · rename_i hc
        simp only [Bool.and_eq_true, List.contains_iff_mem] at hc
        obtain ⟨q, e1, rfl⟩ := Option.map_eq_some_iff.mp h
        have hp := hf _ _ _ e1
        exact r_enm ok.K (hp.2.1 rfl).1 (fun _ => (hp.2.1 rfl).2) (gl_of hc.1.1 ok.sc) (by rw [ok.mg]; exact tb.blts _ hc.1.2) hc.2 hp.1
      · cases h
    · exact hg _ _ h _
  · exact hg _ _ h _
theorem lc_parts {n : Nat} (tb : Tabs T F c) (IE : EOk F T c n) (II : IOk F T c n) (ok : Ok T c.N sc ow W X) {b : Bool} {el tg it : Expr} {ifs : List Expr} {scope : Scope} {pos : Pos} (h : compE c (n + 1) sc b (.ListComp el [⟨tg, it, ifs, 0⟩] scope pos) = some p) :
    ∃ i t co p1, p = Ex.lc (frzOf c.N scope) ((ownOf c.N scope).map (·.2)) t i co p1 ∧ PI X tg it (tIt true F T.g W i) ∧ BlkOk X.N X.env.scope scope (ownOf c.N scope) ∧
      (∀ (t' : Shared) (K : Hp) (cl : List (Str × Addr)) (C : Addr) (fp : List Addr) (xe : Value → Shared → Prop), PG (bx X t' K scope cl C fp xe) tg (gD T.g.K t)) ∧
      (∀ (t' : Shared) (K : Hp) (cl : List (Str × Addr)) (C : Addr) (fp : List Addr) (xe : Value → Shared → Prop) (E : XK), BlkX (bx X t' K scope cl C fp xe) E → PTs (bx X t' K scope cl C fp xe) ifs (tO F T.g (WK E) co)) ∧
      (∀ (t' : Shared) (K : Hp) (cl : List (Str × Addr)) (C : Addr) (fp : List Addr) (xe : Value → Shared → Prop) (E : XK), BlkX (bx X t' K scope cl C fp xe) E → PE (bx X t' K scope cl C fp xe) el (tI F T.g (WK E) .k p1)) ∧
      (∀ x, foldedSetIterable it X.env x = pure x) ∧ (∀ j ∈ slots t, j ∈ (ownOf c.N scope).map (·.2)) := by
  have h' : (if blkC c.N sc scope (ownOf c.N scope) && notSet it then
        match compFIg c (compE c n sc) (compI c n true sc) sc tg it, compTg c.N (relS scope sc) (owB scope sc) n tg, (match ifs with
          | [] => some none
          | [t] => (compE c n (relS scope sc) true t).map some
          | _ => none), compE c n (relS scope sc) false el with
        | some i, some t, some co, some p => if allIn (slots t) ((ownOf c.N scope).map (·.2)) then some (Ex.lc (frzOf c.N scope) ((ownOf c.N scope).map (·.2)) t i co p) else none
        | _, _, _, _ => none
      else none) = some p := h
  split at h'
  · rename_i hc
    simp only [Bool.and_eq_true] at hc
    split at h'
    · rename_i i t co p1 h1 h2 h3 h4
      split at h'
      · rename_i hal
        cases h'
        have hco : ∀ (t' : Shared) (K : Hp) (cl : List (Str × Addr)) (C : Addr) (fp : List Addr) (xe : Value → Shared → Prop) (E : XK), BlkX (bx X t' K scope cl C fp xe) E → PTs (bx X t' K scope cl C fp xe) ifs (tO F T.g (WK E) co) := fun t' K cl C fp xe E bk => by
          split at h3
          · cases h3; exact r_none (sc := sc)
          · obtain ⟨q, e, rfl⟩ := Option.map_eq_some_iff.mp h3
            exact r_some (IE _ _ _ _ e (bxX_ok ok bk)).2.2
          · cases h3
        exact ⟨i, t, co, p1, rfl, fig_ok tb (fun _ _ _ z => IE _ _ _ _ z ok) (fun _ _ z tg => II _ _ _ _ z ok tg) ok h1, by rw [ok.hN, ok.sc]; exact blkOk_by hc.1, fun t' K cl C fp xe => tg_ok (bx_ok ok) n h2, hco, fun t' K cl C fp xe E bk => pok_k (IE _ _ _ _ h4 (bxX_ok ok bk)), fsi_of hc.2 _, allIn_ok hal⟩
      · cases h'
    · cases h'
  · cases h'
theorem lc_ok {n : Nat} (tb : Tabs T F c) (IE : EOk F T c n) (II : IOk F T c n) (ok : Ok T c.N sc ow W X) {b : Bool} {el tg it : Expr} {ifs : List Expr} {scope : Scope} {pos : Pos} (h : compE c (n + 1) sc b (.ListComp el [⟨tg, it, ifs, 0⟩] scope pos) = some p) : POk F T W X b (.ListComp el [⟨tg, it, ifs, 0⟩] scope pos) p := by
  obtain ⟨i, t, co, p1, rfl, a1, a2, a3, a4, a5, a6, a7⟩ := lc_parts tb IE II ok h
  refine pok_plain ok rfl (fun _ _ => rfl) (fun _ => kd_ne (.inr rfl)) ?_
  exact PE.imp (pe_lcX (X := X) (pos := pos) ok.calm ok.nd ok.tp a1 a2 a3 a4 a5 a6) fun σ H Q ⟨w0, w, ρ, s, e, G0, h⟩ => by
    subst e
    exact lc_read a7 G0 h
theorem o_ok {f : Expr → Option Ex} {ifs : List Expr} {co : Option Ex} (hf : ∀ e p, f e = some p → PT X e (tT F T.g W p)) (h : compO f ifs = some co) : PTs X ifs (tO F T.g W co) := by
  unfold compO at h
  split at h
  · cases h; exact r_none (sc := X.env.scope)
  · obtain ⟨q, e, rfl⟩ := Option.map_eq_some_iff.mp h
    exact r_some (hf _ _ e)
  · cases h
theorem lc2_parts {n : Nat} (tb : Tabs T F c) (IE : EOk F T c n) (II : IOk F T c n) (ok : Ok T c.N sc ow W X) {b : Bool} {el tg it tg1 it1 : Expr} {ifs ifs1 : List Expr} {scope : Scope} {pos : Pos} (h : compE c (n + 1) sc b (.ListComp el [⟨tg, it, ifs, 0⟩, ⟨tg1, it1, ifs1, 0⟩] scope pos) = some p) :
    ∃ i t co i1 t1 co1 p1, p = Ex.lc2 (frzOf c.N scope) ((ownOf c.N scope).map (·.2)) (slots t1) t i co t1 i1 co1 p1 ∧ PI X tg it (tIt true F T.g W i) ∧ BlkOk X.N X.env.scope scope (ownOf c.N scope) ∧
      (∀ (s : Shared) (H : Hp) (C : Addr) (cl : List (Str × Addr)) (fp : List Addr), PG (X.blk s H scope (compEnvC scope cl C X.env) fp) tg (gD T.g.K t)) ∧
      (∀ (s : Shared) (H : Hp) (C : Addr) (cl : List (Str × Addr)) (fp : List Addr), PI (X.blk s H scope (compEnvC scope cl C X.env) fp) tg1 it1 (tIt false F T.g W0 i1)) ∧
      (∀ (s : Shared) (H : Hp) (C : Addr) (cl : List (Str × Addr)) (fp : List Addr), PG (X.blk s H scope (compEnvC scope cl C X.env) fp) tg1 (gD T.g.K t1)) ∧
      (∀ (s : Shared) (H : Hp) (C : Addr) (cl : List (Str × Addr)) (fp : List Addr), PE (X.blk s H scope (compEnvC scope cl C X.env) fp) el (tI F T.g W0 .k p1)) ∧
      (∀ x, foldedSetIterable it X.env x = pure x) ∧ (∀ (env : PySem.Env) x, foldedSetIterable it1 env x = pure x) ∧ (∀ j ∈ slots t, j ∈ (ownOf c.N scope).map (·.2)) ∧ (∀ j ∈ slots t1, j ∈ (ownOf c.N scope).map (·.2)) ∧
      (∀ (s : Shared) (H : Hp) (C : Addr) (cl : List (Str × Addr)) (fp : List Addr), PTs (X.blk s H scope (compEnvC scope cl C X.env) fp) ifs (tO F T.g W0 co)) ∧
      (∀ (s : Shared) (H : Hp) (C : Addr) (cl : List (Str × Addr)) (fp : List Addr), PTs (X.blk s H scope (compEnvC scope cl C X.env) fp) ifs1 (tO F T.g W0 co1)) := by
  have h' : (if blkC c.N sc scope (ownOf c.N scope) && notSet it && notSet it1 then
        match compFIg c (compE c n sc) (compI c n true sc) sc tg it, compTg c.N (relS scope sc) (owB scope sc) n tg, compFIg c (compE c n (relS scope sc)) (compI c n false (relS scope sc)) (relS scope sc) tg1 it1, compTg c.N (relS scope sc) (owB scope sc) n tg1, compO (compE c n (relS scope sc) true) ifs, compO (compE c n (relS scope sc) true) ifs1, compE c n (relS scope sc) false el with
        | some i, some t, some i1, some t1, some co, some co1, some p => if allIn (slots t) ((ownOf c.N scope).map (·.2)) && allIn (slots t1) ((ownOf c.N scope).map (·.2)) then some (Ex.lc2 (frzOf c.N scope) ((ownOf c.N scope).map (·.2)) (slots t1) t i co t1 i1 co1 p) else none
        | _, _, _, _, _, _, _ => none
      else none) = some p := h
  split at h'
  · rename_i hc
    simp only [Bool.and_eq_true] at hc
    split at h'
    · rename_i i t i1 t1 co co1 p1 h1 h2 h3 h4 h6 h7 h5
      split at h'
      · rename_i hal
        simp only [Bool.and_eq_true] at hal
        cases h'
        exact ⟨i, t, co, i1, t1, co1, p1, rfl, fig_ok tb (fun _ _ _ z => IE _ _ _ _ z ok) (fun _ _ z tg => II _ _ _ _ z ok tg) ok h1, by rw [ok.hN, ok.sc]; exact blkOk_by hc.1.1, fun s H C cl fp => tg_ok (blk_ok ok) n h2,
          fun s H C cl fp => fig_ok tb (fun _ _ _ z => IE _ _ _ _ z (blk_ok ok)) (fun _ _ z tg => II _ _ _ _ z (blk_ok ok) tg) (blk_ok ok) h3, fun s H C cl fp => tg_ok (blk_ok ok) n h4,
          fun s H C cl fp => pok_k (IE _ _ _ _ h5 (blk_ok ok)), fsi_of hc.1.2 _, fun env x => fsi_of hc.2 env x, allIn_ok hal.1, allIn_ok hal.2,
          fun s H C cl fp => o_ok (fun _ _ z => (IE _ _ _ _ z (blk_ok ok)).2.2) h6, fun s H C cl fp => o_ok (fun _ _ z => (IE _ _ _ _ z (blk_ok ok)).2.2) h7⟩
      · cases h'
    · cases h'
  · cases h'
theorem lc2_ok {n : Nat} (tb : Tabs T F c) (IE : EOk F T c n) (II : IOk F T c n) (ok : Ok T c.N sc ow W X) {b : Bool} {el tg it tg1 it1 : Expr} {ifs ifs1 : List Expr} {scope : Scope} {pos : Pos} (h : compE c (n + 1) sc b (.ListComp el [⟨tg, it, ifs, 0⟩, ⟨tg1, it1, ifs1, 0⟩] scope pos) = some p) : POk F T W X b (.ListComp el [⟨tg, it, ifs, 0⟩, ⟨tg1, it1, ifs1, 0⟩] scope pos) p := by
  obtain ⟨i, t, co, i1, t1, co1, p1, rfl, a1, a2, a3, a4, a5, a6, a7, a8, a9, a10, a11, a12⟩ := lc2_parts tb IE II ok h
  refine pok_plain ok rfl (fun _ _ => rfl) (fun _ => kd_ne (.inr rfl)) ?_
  exact PE.imp (pe_lc2 (X := X) (pos := pos) (vs1 := slots t1) ok.calm ok.nd a1 a2 a10 a3 a11 a4 a5 a12 a6 a7 a8) fun σ H Q ⟨w0, w, ρ, s, e, G0, h⟩ => by
    subst e
    exact lc2_read a9 (fun j hj => hj) G0 h
theorem seqI_ok {n : Nat} (IE : EOk F T c n) (ok : Ok T c.N sc ow W X) {k : Bool} {e : Expr} {it : It} (h : (compE c n sc false e).map It.seq = some it) (tg : Expr) : PI X tg e (tIt k F T.g W it) := by
  obtain ⟨q, e1, rfl⟩ := Option.map_eq_some_iff.mp h
  have hp := IE _ _ _ _ e1 ok
  exact r_seq ok.K (hp.2.1 rfl).1 (fun _ => (hp.2.1 rfl).2) hp.1
theorem sl_ok {f : Bool → Expr → Option Ex} (hf : ∀ b e p, f b e = some p → POk F T W X b e p) {o : Option Expr} {u : Bool} (h : compSl f o = some (u, p)) : Part F T.g W X o u p := by
  unfold compSl at h
  split at h
  · cases h; exact .none
  · obtain ⟨q, e1, e2⟩ := Option.map_eq_some_iff.mp h
    cases e2
    exact .some (hf _ _ _ e1).1
theorem ix_ok {f : Bool → Expr → Option Ex} (hf : ∀ b e p, f b e = some p → POk F T W X b e p) (ok : Ok T c.N sc ow W X) {b : Bool} {a i : Expr} {pos : Pos} (h : compIx f a i = some p) : POk F T W X b (.Subscript a i pos) p := by
  unfold compIx at h
  split at h
  · split at h
    · rename_i p1 u q v r h1 h2 h3
      cases h
      exact pok_plain ok rfl (fun _ _ => rfl) (fun _ => kd_ne (.inl rfl)) (r_sli ok.K (hf _ _ _ h1).1 (sl_ok hf h2) (sl_ok hf h3))
    · cases h
  · split at h
    · rename_i hn
      split at h
      · rename_i p1 q1 h1 h2
        cases h
        exact pok_plain ok rfl (fun _ _ => rfl) (fun _ => kd_ne (.inl rfl)) (r_ix ok.K (plainIx_of hn) (hf _ _ _ h1).1 (hf _ _ _ h2).1)
      · cases h
    · cases h
theorem join_ok {f : Bool → Expr → Option Ex} (hf : ∀ b e p, f b e = some p → POk F T W X b e p) (ok : Ok T c.N sc ow W X) {b : Bool} {x m : Str} {j : Nat} {cp ap pos : Pos} {es : List Expr} (h : compJoin f x m ap pos es = some p) : POk F T W X b (.Call (.Attribute (.Constant (.str x) j cp) m ap) es [] pos) p := by
  unfold compJoin at h
  split at h
  · split at h
    · rename_i hc
      obtain ⟨rfl, h2, h3⟩ := hc
      obtain ⟨q, e1, rfl⟩ := Option.map_eq_some_iff.mp h
      exact pok_plain ok rfl (fun _ _ => rfl) (fun _ => kd_ne (.inl rfl)) (r_joi ok.K (by rw [starEach_of h2]; rfl) h3 (hf _ _ _ e1).1)
    · cases h
  · cases h
theorem get_ok (tb : Tabs T F c) {f : Bool → Expr → Option Ex} (hf : ∀ b e p, f b e = some p → POk F T W X b e p) (ok : Ok T c.N sc ow W X) {b : Bool} {x m : Str} {np ap pos : Pos} {es : List Expr} (h : compGet c sc f x m ap pos es = some p) : POk F T W X b (.Call (.Attribute (.Name x np) m ap) es [] pos) p := by
  unfold compGet at h
  split at h
  · split at h
    · rename_i hc
      obtain ⟨rfl, h2, h3, h4, h5⟩ := hc
      obtain ⟨d1, d2, d3⟩ := db_of h5
      split at h
      · rename_i kvs q e0 e1
        cases h
        exact pok_plain ok rfl (fun _ _ => rfl) (fun _ => kd_ne (.inl rfl)) (r_wget (tb.dcts _ _ e0) ok.K ok.w ok.mg (gl_of h4 ok.sc) d1 h2 h3 (hf _ _ _ e1).1)
      · cases h
    · cases h
  · cases h
theorem both_ok (tb : Tabs T F c) : ∀ n, EOk F T c n ∧ IOk F T c n
  | 0 => ⟨fun _ _ _ _ h => (by cases h), fun _ _ _ _ h => (by cases h)⟩
  | n + 1 => by
    obtain ⟨IE, II⟩ := both_ok tb n
    refine ⟨fun sc b e p h ow W X ok => ?_, fun k sc e it h ow W X ok tg => ?_⟩
    · have hf : ∀ b e p, compE c n sc b e = some p → POk F T W X b e p := fun b e p h => IE sc b e p h ok
      cases e with
      | Constant kc j pos =>
        cases kc with
        | int i => cases h; exact pok_plain ok rfl (fun _ _ => rfl) (fun _ => kd_ne (.inl rfl)) (r_c pe_int fun _ _ => .int i)
        | bool i => cases h; exact pok_plain ok rfl (fun _ _ => rfl) (fun _ => kd_ne (.inl rfl)) (r_c pe_bl fun _ _ => .bl i)
        | none => cases h; exact pok_plain ok rfl (fun _ _ => rfl) (fun _ => kd_ne (.inl rfl)) (r_c pe_non fun _ _ => .non)
        | str x => cases h; exact pok_plain ok rfl (fun _ _ => rfl) (fun _ => kd_ne (.inl rfl)) (r_c pe_str fun _ _ => .str x)
        | _ => cases h
      | Name x pos => exact name_ok tb ok h
      | Tuple es k pos =>
        obtain ⟨ps, e2, rfl⟩ := Option.map_eq_some_iff.mp (show (compAs (compE c n sc) (List.replicate es.length false) es).map Ex.tup = some p from h)
        obtain ⟨a1, a2, a3⟩ := as_ok hf e2
        exact pok_plain ok rfl (fun _ _ => rfl) (fun _ => kd_ne (.inl rfl)) (r_tup (all_false _) a1)
      | List es pos =>
        obtain ⟨ps, e2, rfl⟩ := Option.map_eq_some_iff.mp (show (compAs (compE c n sc) (List.replicate es.length false) es).map Ex.lst = some p from h)
        obtain ⟨a1, a2, a3⟩ := as_ok hf e2
        exact pok_plain ok rfl (fun _ _ => rfl) (fun _ => kd_ne (.inr rfl)) (r_lst (all_false _) a1)
      | Dict ks vs pos =>
        have h' : compDic ks vs = some p := h
        unfold compDic at h'
        split at h'
        · rename_i h1
          split at h'
          · rename_i hv
            cases h'
            have hv' : vs = [] := List.isEmpty_iff.mp hv
            subst hv'
            cases ks with
            | nil => exact pok_plain ok rfl (fun _ _ => rfl) (fun _ => kd_ne (.inl rfl)) r_dic0
            | cons k ks => cases k <;> cases h1
          · cases h'
        · rename_i p0 l h1
          split at h'
          · rename_i hl
            cases h'
            exact pok_plain ok rfl (fun _ _ => rfl) (fun _ => kd_ne (.inl rfl)) (r_dic h1 (by simp) (by simp; omega))
          · cases h'
        · cases h'
      | BinOp a op r pos =>
        have h' : (match boOf op, compE c n sc true a, compE c n sc true r with
          | some o, some p, some q => if o = .add ∧ (lsty a || lsty r) = true then some (Ex.cat p q) else some (Ex.bin o p q)
          | _, _, _ => none) = some p := h
        split at h'
        · rename_i o p1 q1 h1 h2 h3
          have e1 := boOf_ok h1
          subst e1
          split at h'
          · rename_i ho
            cases h'
            obtain ⟨ho, _⟩ := ho
            subst ho
            exact pok_plain ok rfl (fun _ _ => rfl) (fun _ => kd_ne (.inr rfl)) (r_cat ok.K (hf _ _ _ h2).1 (hf _ _ _ h3).1)
          · cases h'
            exact pok_plain ok rfl (fun _ _ => rfl) (fun _ => kd_ne (.inl rfl)) (r_bin o ok.K (hf _ _ _ h2).1 (hf _ _ _ h3).1)
        · cases h'
      | UnaryOp op a pos =>
        cases op with
        | USub =>
          obtain ⟨q, e2, rfl⟩ := Option.map_eq_some_iff.mp (show (compE c n sc true a).map Ex.neg = some p from h)
          exact pok_plain ok rfl (fun _ _ => rfl) (fun _ => kd_ne (.inl rfl)) (r_neg (hf _ _ _ e2).1)
        | Not =>
          obtain ⟨q, e2, rfl⟩ := Option.map_eq_some_iff.mp (show (compE c n sc true a).map Ex.nt = some p from h)
          have hp := hf _ _ _ e2
          obtain ⟨a1, a2⟩ := r_not (pos := pos) hp.1 hp.2.2
          exact ⟨a1, fun _ => kd_ne (.inl rfl), a2⟩
        | _ => cases h
      | BoolOp op es pos =>
        have h' : compBs (compE c n sc) op es = some p := h
        obtain ⟨a1, a2⟩ := bs_ok (pos := pos) hf h'
        have hk := bs_kd hf h'
        refine ⟨?_, fun _ => hk, a2.pt⟩
        cases q : kd p with
        | k => exact a1
        | b => exact absurd q hk.1
        | s => exact absurd q hk.2
        | f =>
          -- a single part that is fresh: as it came
          match es, h' with
          | [a], h' =>
            have hp := (hf _ _ _ (show compE c n sc false a = some p from h')).1
            rw [q] at hp
            exact pe_one hp
          | a :: b :: rest, h' =>
            have h2 : (match compE c n sc true a, compBs (compE c n sc) op (b :: rest) with
              | some p, some q => some (bopE op p q)
              | _, _ => none) = some p := h'
            split at h2
            · cases h2
              cases op <;> cases q
            · cases h2
      | Compare a os rs pos =>
        match os, rs, h with
        | [o], [r], h =>
          have h' : (match coOf o, compE c n sc true a, compE c n sc true r with
            | some o', some p, some q => if behindInMarks o r = false then some (Ex.cmp o' p q) else none
            | _, _, _ => none) = some p := h
          split at h'
          · rename_i o' p1 q1 h1 h2 h3
            split at h'
            · rename_i hm
              cases h'
              have e1 := coOf_ok h1
              subst e1
              obtain ⟨a1, a2⟩ := r_cmp (pos := pos) o' ok.K ok.room hm (hf _ _ _ h2).1 (hf _ _ _ h3).1
              exact ⟨a1, fun _ => kd_ne (.inl rfl), a2⟩
            · cases h'
          · cases h'
        | [o, o2], [r, t], h =>
          have h' : (match coOf o, coOf o2, compE c n sc true a, compE c n sc true r, compE c n sc true t with
            | some o', some o2', some p, some q, some u => if lastMarks [o, o2] [r, t] = false then some (Ex.ch o' o2' p q u) else none
            | _, _, _, _, _ => none) = some p := h
          split at h'
          · rename_i o' o2' p1 q1 u1 h1 h12 h2 h3 h4
            split at h'
            · rename_i hm
              cases h'
              have e1 := coOf_ok h1
              subst e1
              have e2 := coOf_ok h12
              subst e2
              have e0 := pe_chain (pos := pos) (X := X) (op_cmpR ok.room o') (op_cmpR ok.room o2') (hf _ _ _ h2).1 (hf _ _ _ h3).1 (hf _ _ _ h4).1 hm
              have t0 := pt_chain (pos := pos) (X := X) (op_cmpR ok.room o') (op_cmpR ok.room o2') (hf _ _ _ h2).1 (hf _ _ _ h3).1 (hf _ _ _ h4).1 hm
              refine ⟨PE.imp e0 fun σ H Q z => ?_, fun _ => kd_ne (.inl rfl), r_tt (fun _ _ => rfl) (fun _ _ _ _ _ => ch_bl) t0 fun σ H Q z => ?_⟩
              · rw [ok.K]; exact ch_hi z
              · rw [ok.K]; exact ch_hi z
            · cases h'
          · cases h'
        | [], [], h => cases h
        | [], _ :: _, h => cases h
        | [_], [], h => cases h
        | [_], _ :: _ :: _, h => cases h
        | [_, _], [], h => cases h
        | [_, _], [_], h => cases h
        | [_, _], _ :: _ :: _ :: _, h => cases h
        | _ :: _ :: _ :: _, _, h => cases h
      | IfExp t a r pos =>
        have h' : (match compE c n sc true t, compE c n sc false a, compE c n sc false r with
          | some p, some q, some u => some (Ex.ife p q u)
          | _, _, _ => none) = some p := h
        split at h'
        · rename_i p1 q1 u1 h1 h2 h3
          cases h'
          exact ⟨r_ife (hf _ _ _ h1).2.2 (pok_k (hf _ _ _ h2)) (pok_k (hf _ _ _ h3)), fun _ => kd_ne (.inl rfl), tbad fun _ _ => rfl⟩
        · cases h'
      | Subscript a i pos => exact ix_ok hf ok (show compIx (compE c n sc) a i = some p from h)
      | Call f es kws pos =>
        cases f with
        | Name x pp =>
          cases kws with
          | nil => exact call_ok tb IE ok h
          | cons k ks => exact callK_ok tb IE ok (show compKw c sc (compE c n sc) x es (k :: ks) = some p from h)
        | Attribute o m ap =>
          cases o with
          | Constant kc j cp =>
            cases kc with
            | str x =>
              cases kws with
              | nil => exact join_ok hf ok (show compJoin (compE c n sc) x m ap pos es = some p from h)
              | cons k ks => cases h
            | _ => cases h
          | Name x np =>
            cases kws with
            | nil => exact get_ok tb hf ok (show compGet c sc (compE c n sc) x m ap pos es = some p from h)
            | cons k ks => cases h
          | _ => cases h
        | _ => cases h
      | ListComp el gens scope pos =>
        match gens, h with
        | [⟨tg, it, ifs, ia⟩], h =>
          by_cases e0 : ia = 0
          · subst e0
            exact lc_ok tb IE II ok h
          · exfalso
            revert h
            simp [compE, e0]
        | [⟨tg, it, ifs, ia⟩, ⟨tg1, it1, ifs1, ia1⟩], h =>
          by_cases e0 : ia = 0 ∧ ia1 = 0
          · obtain ⟨rfl, rfl⟩ := e0
            exact lc2_ok tb IE II ok h
          · exfalso
            revert h
            unfold compE
            split <;> simp_all
        | [], h => cases h
        | _ :: _ :: _ :: _, h => simp [compE] at h
      | _ => cases h
    · unfold compI at h
      split at h
      · rename_i x pp a cpos
        split at h
        · rename_i hx
          subst hx
          split at h
          · rename_i hc
            simp only [Bool.and_eq_true, List.contains_iff_mem] at hc
            obtain ⟨q, e1, rfl⟩ := Option.map_eq_some_iff.mp h
            exact r_rng1 (gl_of hc.1.1 ok.sc) (by rw [ok.mg]; exact tb.blts _ hc.1.2) hc.2 (IE _ _ _ _ e1 ok).1
          · cases h
        · exact seqI_ok IE ok h tg
      · rename_i x pp a b cpos
        split at h
        · rename_i hx
          subst hx
          split at h
          · rename_i hc
            simp only [Bool.and_eq_true, List.contains_iff_mem] at hc
            split at h
            · rename_i p1 q1 h1 h2
              cases h
              exact r_rng2 (gl_of hc.1.1.1 ok.sc) (by rw [ok.mg]; exact tb.blts _ hc.1.1.2) hc.1.2 hc.2 (IE _ _ _ _ h1 ok).1 (IE _ _ _ _ h2 ok).1
            · cases h
          · cases h
        · exact seqI_ok IE ok h tg
      · rename_i x pos
        split at h
        · rename_i hc
          simp only [Bool.and_eq_true] at hc
          obtain ⟨i, e1, rfl⟩ := Option.map_eq_some_iff.mp h
          obtain ⟨d1, d2, d3⟩ := db_of hc.1
          have hpv : PE X (.Name x pos) (tVar i) := pe_var (by rw [ok.hN]; exact idx_ok e1) (vis_of hc.2 ok.sc) d1 d2
          cases k with
          | true => exact r_seq ok.K (by decide) (fun z => by cases z) (r_sv hpv)
          | false => exact r_seq ok.K (by decide) (fun _ => by decide) (r_v hpv)
        · exact seqI_ok IE ok h tg
      · exact seqI_ok IE ok h tg
end
end Z

namespace Z
open PySem PySem.Spec PyProof.Rows L2
/-! ### except suites -/
def G.wx (g : G) (x : Option (Addr × Option Addr × Nat)) : G := ⟨g.K, g.cl, g.ol, x⟩
def Tb.wx (T : Tb) (x : Option (Addr × Option Addr × Nat)) : Tb := { T with g := T.g.wx x }
section
variable {g g' : G} {w0 w w' : Ws} {ρ : En} {s : List D} {σ : L2.St} {v : V} {d : D} {o : HO}
theorem RO.conv (hK : g.K = g'.K) (hc : g.ol = g'.ol) (h : RO g w o d) : RO g' w o d := by
  obtain ⟨K, el, cl, x⟩ := g
  obtain ⟨K', el', cl', x'⟩ := g'
  cases hK
  cases hc
  cases h with
  | lst r => exact .lst r
  | ins c r => exact .ins c r
theorem Base.conv (hK : g.K = g'.K) (hc : g.ol = g'.ol) (h : Base g w s) : Base g' w s := ⟨h.fz, h.sl, fun k a e => by
  obtain ⟨d, o, e1, e2, r⟩ := h.st k a e
  exact ⟨d, o, e1, e2, r.conv hK hc⟩, h.nd⟩
theorem Rw.conv (hK : g.K = g'.K) (hc : g.ol = g'.ol) (h : Rw g w v d) : Rw g' w v d := by
  obtain ⟨K, el, cl, x⟩ := g
  obtain ⟨K', el', cl', x'⟩ := g'
  cases hK
  cases hc
  exact h
theorem Tr.conv (hK : g.K = g'.K) (hc : g.ol = g'.ol) (h : Tr g w v d) : Tr g' w v d := by
  rcases h with h | ⟨a, o, e, h, n, r⟩
  · exact .inl (Rw.conv hK hc h)
  · exact .inr ⟨a, o, e, h, n, r.conv hK hc⟩
theorem unX_get {i : Nat} {x : Sl} (h : (unX ρ)[i]? = some x) (hx : x ≠ .un) : ρ[i]? = some x ∧ ∀ c fs, x ≠ .xc c fs := by
  unfold unX at h
  rw [List.getElem?_map] at h
  obtain ⟨y, e, e2⟩ := Option.map_eq_some_iff.mp h
  cases y <;> (cases e2; first | exact absurd rfl hx | exact ⟨e, fun c fs z => by cases z⟩)
theorem Good.conv (hK : g.K = g'.K) (hc : g.ol = g'.ol) (G0 : Good g w0 w ρ s σ) : Good g' w0 w (unX ρ) s σ := by
  refine ⟨G0.base.conv hK hc, G0.ext, G0.new, by rw [unX, List.length_map]; exact G0.len, fun i d e => ?_, fun i d e => ?_, fun i d e => ?_, fun i j d e a h1 h2 => ?_, fun i c fs e => ?_⟩
  · obtain ⟨v, e1, r⟩ := G0.im i d (unX_get e (by intro z; cases z)).1
    exact ⟨v, e1, Rw.conv hK hc r⟩
  · obtain ⟨a, o, e1, e2, r, q⟩ := G0.ow i d (unX_get e (by intro z; cases z)).1
    exact ⟨a, o, e1, e2, r.conv hK hc, q⟩
  · obtain ⟨v, e1, r⟩ := G0.br i d (unX_get e (by intro z; cases z)).1
    exact ⟨v, e1, r.conv hK hc⟩
  · exact G0.dis i j d e a (unX_get h1 (by intro z; cases z)).1 (unX_get h2 (by intro z; cases z)).1
  · exact absurd rfl ((unX_get e (by intro z; cases z)).2 c fs)
theorem Good.setX {i c : Nat} {fs : List (Str × D)} {a : Addr} {dx : Option Addr} (G0 : Good g w0 w ρ s σ) (hx : g.xa = some (a, dx, c)) (h : XD g w dx fs) : Good g w0 w (ρ.set i (.xc c fs)) s (σ.set i (some (.ref a))) := by
  have key : ∀ {j : Nat} {x : Sl}, (ρ.set i (.xc c fs))[j]? = some x → (i = j ∧ i < ρ.length ∧ x = .xc c fs) ∨ (i ≠ j ∧ ρ[j]? = some x) := fun {j x} e => by
    by_cases hj : i = j
    · subst hj
      by_cases hi : i < ρ.length
      · rw [List.getElem?_set_self hi] at e; cases e; exact .inl ⟨rfl, hi, rfl⟩
      · rw [List.getElem?_eq_none (by rw [List.length_set]; omega)] at e; cases e
    · rw [List.getElem?_set_ne hj] at e; exact .inr ⟨hj, e⟩
  refine ⟨G0.base, G0.ext, G0.new, by rw [List.length_set, List.length_set]; exact G0.len, fun j d' e => ?_, fun j d' e => ?_, fun j d' e => ?_, fun j k d' d'' a e e' e2 e3 => ?_, fun j c fs e => ?_⟩
  · rcases key e with ⟨rfl, hi, e⟩ | ⟨hj, e⟩
    · cases e
    · rw [List.getElem?_set_ne hj]; exact G0.im j d' e
  · rcases key e with ⟨rfl, hi, e⟩ | ⟨hj, e⟩
    · cases e
    · rw [List.getElem?_set_ne hj]; exact G0.ow j d' e
  · rcases key e with ⟨rfl, hi, e⟩ | ⟨hj, e⟩
    · cases e
    · rw [List.getElem?_set_ne hj]; exact G0.br j d' e
  · rcases key e with ⟨rfl, hi, e⟩ | ⟨hj, e⟩
    · cases e
    · rcases key e' with ⟨rfl, hi, e'⟩ | ⟨hk, e'⟩
      · cases e'
      · rw [List.getElem?_set_ne hj] at e2; rw [List.getElem?_set_ne hk] at e3
        exact G0.dis j k d' d'' a e e' e2 e3
  · rcases key e with ⟨rfl, hi, e⟩ | ⟨hj, e⟩
    · cases e
      exact ⟨a, dx, hx, by rw [List.getElem?_set_self (by rw [G0.len]; exact hi)], h⟩
    · rw [List.getElem?_set_ne hj]; exact G0.xc j c fs e
end
section
variable (c : CT) (n : Str)
def compX : Nat → Scope → Expr → Option Ex
  | 0, _, _ => none
  | m + 1, sc, e => match e with
    | .Constant k _ _ => match k with
      | .int i => some (.c (.int i))
      | .bool x => some (.c (.bl x))
      | .none => some (.c .non)
      | .str x => some (.c (.str x))
      | _ => none
    | .Tuple es _ _ => (compAs (fun _ e => compX m sc e) (List.replicate es.length false) es).map .tup
    | .List es _ => (compAs (fun _ e => compX m sc e) (List.replicate es.length false) es).map .lst
    | .Attribute (.Name x _) f _ => if x = n && visB sc n && dbB n && c.flds.contains f then (idx c.N n).map fun i => .fx i f else none
    | .Call (.Name x _) [.Name y _, .Name t _] [] _ => if x = "isinstance" && y = n && visB sc n && dbB n && glB sc x && glB sc t && dbB t && c.blts.contains x then match idx c.N n, c.exn.lookup t with
      | some i, some ks => some (.isx i ks)
      | _, _ => none else none
    | .Call (.Name x _) [a, .Name t _] [] _ => if x = "isinstance" && glB sc x && notStar a then compIsi c sc (fun _ e => compX m sc e) x [a, .Name t ⟨0, 0, 0, 0⟩] else none
    | .UnaryOp .Not a _ => (compX m sc a).map .nt
    | .BoolOp op es _ => compBs (fun _ e => compX m sc e) op es
    | .IfExp t a r _ => match compX m sc t, compX m sc a, compX m sc r with
      | some p, some q, some u => some (.ife p q u)
      | _, _, _ => none
    | _ => none
mutual
def compXS : Nat → Scope → Stmt → Option Stm
  | 0, _, _ => none
  | m + 1, sc, st => match st with
    | .Return (some e) _ => (compX c n m sc e).map .ret
    | .If t a b _ => match compX c n m sc t, compXSs m sc a, compXSs m sc b with
      | some p, some q, some r => some (.ife p q r)
      | _, _, _ => none
    | .Pass _ => some .pas
    | _ => none
def compXSs : Nat → Scope → List Stmt → Option (List Stm)
  | 0, _, _ => none
  | m + 1, sc, [] => some []
  | m + 1, sc, a :: b => match compXS m sc a, compXSs m sc b with
    | some p, some q => some (p :: q)
    | _, _ => none
end
end
section
variable {F : Fs} {T : Tb} {c : CT} {N : List Str} {sc : Scope} {ow : Str → Bool} {W : WX} {X : Cx} {p q pa pb pc : Ex} {w0 w w1 w2 w' : Ws} {ρ ρ1 : En} {s s1 s' : List D} {σ : L2.St} {H : Hp} {Q : VK} {i : Nat} {n : Str}
theorem pokX {b : Bool} {e : Expr} (K : X.K = T.g.K) (hp : plainT e = true) (ht : ∀ ρ s, ev F p true ρ s = fin true (ev F p false ρ s)) (hk : b = false → kd p ≠ .b ∧ kd p ≠ .s) (h : PE X e (tI F T.g W (kd p) p)) : POk F T W X b e p :=
  ⟨h, hk, r_truth ht K h (isTrue_of hp)⟩
/-- what a suite needs of the tables -/
structure TabX (T : Tb) (c : CT) : Prop where
  blts : ∀ x, x ∈ c.blts → T.mg x = none
  exn : ∀ x ks, c.exn.lookup x = some ks → ∃ cv, CN T x cv ∧ ∀ (k : Nat) C, T.g.cl k = some C → PySem.W.exmOne T.g.K (.ref C) cv = some (ks.contains k) ∧ PySem.W.kitOne T.g.K (.ref C) cv = some (ks.contains k)
  kc : ∀ (k : Nat) C, T.g.cl k = some C → KC T.g.K C ∧ ∀ f ∈ c.flds, PySem.W.findIn T.g.K (.ref C) f = some none
theorem Tabs.toX (tb : Tabs T F c) (x : Option (Addr × Option Addr × Nat)) : TabX (T.wx x) c := ⟨tb.blts, fun y ks h => by
  obtain ⟨cv, a, b⟩ := tb.exn y ks h
  refine ⟨cv, ?_, b⟩
  cases a with
  | own e => exact .own e
  | blt e1 e2 e3 => exact .blt e1 e2 e3, tb.kc⟩
theorem x_ok (tb : TabX T c) (S : SuX T c.N sc X) : ∀ (m : Nat) (b : Bool) (e : Expr) (p : Ex), compX c n m sc e = some p → POk F T W X b e p
  | 0, _, _, _, h => by cases h
  | m + 1, b, e, p, h => by
    have hf : ∀ (b : Bool) e p, (fun (_ : Bool) e => compX c n m sc e) b e = some p → POk F T W X b e p := fun b e p h => x_ok tb S m b e p h
    unfold compX at h
    split at h
    · split at h
      · cases h; exact pokX S.K rfl (fun _ _ => rfl) (fun _ => kd_ne (.inl rfl)) (r_c pe_int fun _ _ => .int _)
      · cases h; exact pokX S.K rfl (fun _ _ => rfl) (fun _ => kd_ne (.inl rfl)) (r_c pe_bl fun _ _ => .bl _)
      · cases h; exact pokX S.K rfl (fun _ _ => rfl) (fun _ => kd_ne (.inl rfl)) (r_c pe_non fun _ _ => .non)
      · cases h; exact pokX S.K rfl (fun _ _ => rfl) (fun _ => kd_ne (.inl rfl)) (r_c pe_str fun _ _ => .str _)
      · cases h
    · obtain ⟨ps, e2, rfl⟩ := Option.map_eq_some_iff.mp h
      obtain ⟨a1, a2, a3⟩ := as_ok hf e2
      exact pokX S.K rfl (fun _ _ => rfl) (fun _ => kd_ne (.inl rfl)) (r_tup (all_false _) a1)
    · obtain ⟨ps, e2, rfl⟩ := Option.map_eq_some_iff.mp h
      obtain ⟨a1, a2, a3⟩ := as_ok hf e2
      exact pokX S.K rfl (fun _ _ => rfl) (fun _ => kd_ne (.inr rfl)) (r_lst (all_false _) a1)
    · split at h
      · rename_i hc
        simp only [Bool.and_eq_true, decide_eq_true_eq, List.contains_iff_mem] at hc
        obtain ⟨⟨⟨rfl, hv⟩, hd⟩, hfl⟩ := hc
        obtain ⟨i, e1, rfl⟩ := Option.map_eq_some_iff.mp h
        obtain ⟨d1, d2, d3⟩ := db_of hd
        exact pokX S.K rfl (fun _ _ => rfl) (fun _ => kd_ne (.inl rfl)) (r_fx S (idx_ok e1) (vis_of hv S.sc) d1 d2 fun k C hC => ⟨(tb.kc k C hC).1.xf, (tb.kc k C hC).2 _ hfl⟩)
      · cases h
    · split at h
      · rename_i hc
        simp only [Bool.and_eq_true, decide_eq_true_eq, List.contains_iff_mem] at hc
        obtain ⟨⟨⟨⟨⟨⟨⟨rfl, rfl⟩, hv⟩, hd⟩, hg⟩, hgt⟩, hdt⟩, hb⟩ := hc
        split at h
        · rename_i i ks e1 e2
          cases h
          obtain ⟨d1, d2, d3⟩ := db_of hd
          obtain ⟨t1, t2, t3⟩ := db_of hdt
          obtain ⟨cv, c1, c2⟩ := tb.exn _ _ e2
          exact pokX S.K rfl (fun _ _ => rfl) (fun _ => kd_ne (.inl rfl)) (r_isx S (idx_ok e1) (vis_of hv S.sc) d1 d2 (gl_of hg S.sc) (by rw [S.mg]; exact tb.blts _ hb) (gl_of hgt S.sc) t1 c1 fun k C hC => ⟨(tb.kc k C hC).1, (c2 k C hC).2⟩)
        · cases h
      · cases h
    · split at h
      · rename_i hc
        simp only [Bool.and_eq_true, decide_eq_true_eq] at hc
        obtain ⟨⟨rfl, hg⟩, hs⟩ := hc
        unfold compIsi at h
        dsimp only at h
        split at h
        · rename_i ty p1 t1 t2
          split at h
          · rename_i hb
            cases h
            simp only [Bool.and_eq_true, List.contains_iff_mem] at hb
            obtain ⟨⟨b1, b2⟩, b3⟩ := hb
            obtain ⟨n1, n2⟩ := ty_nm t1
            subst n1
            have ha := hf true _ _ t2
            exact pokX S.K rfl (fun _ _ => rfl) (fun _ => kd_ne (.inl rfl)) (r_isi S.K n2 (gl_of hg S.sc) (by rw [S.mg]; exact tb.blts _ b3) (gl_of b1 S.sc) (by rw [S.mg]; exact tb.blts _ b2) hs ha.1)
          · cases h
        · cases h
      · cases h
    · rename_i a pos
      obtain ⟨q, e2, rfl⟩ := Option.map_eq_some_iff.mp h
      have hp := hf true _ _ e2
      obtain ⟨a1, a2⟩ := r_not (pos := pos) hp.1 hp.2.2
      exact ⟨a1, fun _ => kd_ne (.inl rfl), a2⟩
    · rename_i op es pos
      obtain ⟨a1, a2⟩ := bs_ok (pos := pos) hf h
      have hk := bs_kd hf h
      refine ⟨?_, fun _ => hk, a2.pt⟩
      cases q : kd p with
      | k => exact a1
      | b => exact absurd q hk.1
      | s => exact absurd q hk.2
      | f =>
        match es, h with
        | [a], h =>
          have hp := (hf false _ _ (show compX c n m sc a = some p from h)).1
          rw [q] at hp
          exact pe_one hp
        | a :: b :: rest, h =>
          have h2 : (match (fun (_ : Bool) e => compX c n m sc e) true a, compBs (fun (_ : Bool) e => compX c n m sc e) op (b :: rest) with
            | some p, some q => some (bopE op p q)
            | _, _ => none) = some p := h
          split at h2
          · cases h2
            cases op <;> cases q
          · cases h2
    · split at h
      · rename_i h1 h2 h3
        cases h
        exact ⟨r_ife (hf true _ _ h1).2.2 (pok_k (hf false _ _ h2)) (pok_k (hf false _ _ h3)), fun _ => kd_ne (.inl rfl), tbad fun _ _ => rfl⟩
      · cases h
    · cases h
mutual
theorem xs1_ok (tb : TabX T c) (S : SuX T c.N sc X) : ∀ (m : Nat) {st : Stmt} {s : Stm}, compXS c n m sc st = some s → PS X st (tS F T.g W s)
  | 0, _, _, h => by cases h
  | m + 1, st, s, h => by
    unfold compXS at h
    split at h
    · obtain ⟨q, e1, rfl⟩ := Option.map_eq_some_iff.mp h
      exact s_ret (pok_k (x_ok tb S m false _ _ e1))
    · split at h
      · rename_i h1 h2 h3
        cases h
        exact s_ife (x_ok tb S m true _ _ h1).2.2 (xs_ok tb S m h2) (xs_ok tb S m h3)
      · cases h
    · cases h; exact s_pas
    · cases h
theorem xs_ok (tb : TabX T c) (S : SuX T c.N sc X) : ∀ (m : Nat) {st : List Stmt} {s : List Stm}, compXSs c n m sc st = some s → PSs X st (tSs F T.g W s)
  | 0, _, _, h => by cases h
  | m + 1, [], s, h => by cases h; exact s_nil
  | m + 1, a :: b, s, h => by
    have h' : (match compXS c n m sc a, compXSs c n m sc b with
      | some p, some q => some (p :: q)
      | _, _ => none) = some s := h
    split at h'
    · rename_i p q h1 h2
      cases h'
      exact s_cons (xs1_ok tb S m h1) (xs_ok tb S m h2)
    · cases h'
end
/-! ### try .. except x as n -/
theorem s_trx {x : Str} {cv : Value} {body suite : List Stmt} {b₀ : Stmt} {np pos pos' : Pos} {b su : List Stm} {ks : List Nat} (hs : X.stack = X.env :: X.outer) (hf : X.env.frame = some X.env.locals) (hN : X.N.Nodup) (hi : X.N[i]? = some n) (hln : X.env.kindOf n = some .local) (hc : Names X x cv) (tk : Takes X W) (K : X.K = T.g.K)
    (hex : ∀ (k : Nat) C, T.g.cl k = some C → PySem.W.exmOne T.g.K (.ref C) cv = some (ks.contains k))
    (hb : ∀ (W' : WX) (pn : List (Addr × Obj)) (xe : Value → Shared → Prop), Takes (X.tr pn xe) W' → PassesOwn (model X.prog X.w) X.A X.env xe → PSs (X.tr pn xe) body (tSs F T.g W' b))
    (hsu : ∀ (a : Addr) (oe : Obj) (d : Option Addr) (pn : List (Addr × Obj)) (k : Nat) (C : Addr), T.g.cl k = some C → Zc (.ref C) d oe → (∃ vs, oe.data = .fields vs) → PSs (X.suite a ((a, oe) :: pn)) (b₀ :: suite) (tSs F (T.g.wx (some (a, d, k))) (fun _ _ _ _ => False) su)) :
    PS X (.Try body [.ExceptHandler (some (.Name x np)) (some n) (b₀ :: suite) pos'] [] [] pos) (tS F T.g W (.trx b ks (some i) su)) := by
  have h0 := ps_try_as (np := np) (pos := pos) (pos' := pos') (body := body) (suite := suite) (b₀ := b₀) (tb := fun W' => tSs F T.g W' b)
    (ts := fun a cls d D σ H => ∃ (k : Nat) (C : Addr), cls = .ref C ∧ T.g.cl k = some C ∧ tSs F (T.g.wx (some (a, d, k))) (fun _ _ _ _ => False) su D σ H) hs hf hN hi hln hc tk hb
    (fun a oe cls d pn hz hv => ⟨fun pins s σ H D I ⟨k, C, e, hC, h⟩ => by
      subst e
      exact (hsu a oe d pn k C hC hz hv).run pins s σ H D I h⟩)
  refine PS.imp h0 fun D σ H ⟨w0, w, ρ, s, e, G0, h⟩ => ?_
  subst e
  have e0 : ex F (.trx b ks (some i) su) ρ s = match exs F b ρ s with
    | .exc c fs ρ s => if ks.contains c then suF (exs F su (suB (some i) c fs ρ) s) else .exc c fs ρ s
    | o => o := rfl
  rw [e0] at h
  refine ⟨w0, w, ρ, s, rfl, G0, ?_⟩
  cases q : exs F b ρ s with
  | nx ρ1 s1 => rw [q] at h; exact h
  | bk ρ1 s1 => rw [q] at h; exact h
  | ct ρ1 s1 => rw [q] at h; exact h
  | rt d s1 => rw [q] at h; exact h
  | bad => rw [q] at h; exact h
  | exc c fs ρ1 s1 =>
    rw [q] at h
    intro C d w' σ1 G1 hC xd
    refine ⟨ks.contains c, by rw [K]; exact hex c C hC, fun hk a ha => ?_, fun hk => ?_⟩
    · have h' : GoS T.g W w0 w (if ks.contains c = true then suF (exs F su (suB (some i) c fs ρ1) s1) else .exc c fs ρ1 s1) D := h
      rw [if_pos hk] at h'
      refine ⟨c, C, rfl, hC, w0, w', suB (some i) c fs ρ1, s1, rfl, (Good.conv (g := T.g) (g' := T.g.wx (some (a, d, c))) rfl rfl G1).setX rfl ?_, ?_⟩
      · rcases xd with xd | ⟨dx, fv, e1, e2, r⟩
        · exact .inl xd
        · exact .inr ⟨dx, fv, e1, e2, r⟩
      · cases q2 : exs F su (suB (some i) c fs ρ1) s1 with
        | rt dd s2 =>
          rw [q2] at h'
          exact fun v w2 B S Fr r => h' v w2 (Base.conv (g := T.g.wx (some (a, d, c))) (g' := T.g) rfl rfl B) S Fr (Rw.conv (g := T.g.wx (some (a, d, c))) (g' := T.g) rfl rfl r)
        | nx _ _ => rw [q2] at h'; exact h'.elim
        | bk _ _ => rw [q2] at h'; exact h'.elim
        | ct _ _ => rw [q2] at h'; exact h'.elim
        | exc _ _ _ _ => rw [q2] at h'; exact h'.elim
        | bad => rw [q2] at h'; exact h'.elim
    · have h' : GoS T.g W w0 w (if ks.contains c = true then suF (exs F su (suB (some i) c fs ρ1) s1) else .exc c fs ρ1 s1) D := h
      rw [if_neg (by rw [hk]; simp)] at h'
      exact h' C d w' σ1 G1 hC xd
end
end Z

namespace Z
open PySem PySem.Spec PyProof.Rows L2
def isComp : Expr → Bool
  | .ListComp .. => true
  | .SetComp .. => true
  | .DictComp .. => true
  | _ => false
def isSeqDisp : Expr → Bool
  | .Tuple .. => true
  | _ => false
def isTupTg : Expr → Bool
  | .Tuple .. => true
  | .List .. => true
  | _ => false
def swB (sc : Scope) (y : Str) (py pos : Pos) (scope : Scope) : Bool :=
  (sc.names.lookup y == some NameKind.local) && py.line == pos.line && !(scope.names.any fun (n, k) => n == y && (k == .local || k == .cell))
def isLocal (sc : Scope) (x : Str) : Bool := match sc.names.lookup x with
  | some .local => true
  | _ => false
def isF : Kd → Bool
  | .f => true
  | _ => false
section
variable (c : CT)
def compAsg (n : Nat) (sc : Scope) (tg e : Expr) : Option Stm :=
  match tg with
  | .Name x px => if locB sc x && dbB x then match idx c.N x, compE c n sc false e with
    | some i, some p => match e with
      | .ListComp .. => some (.own i p)
      | .SetComp .. => none
      | .DictComp .. => none
      | _ => if isF (kd p) then some (.own i p) else some (.asg (.nm i) p)
    | _, _ => none else none
  | .Tuple ts _ _ => if isComp e then none else match ts, e with
    | [.Name x px, .Name y py], .Tuple [a, b] _ _ => if isLocal sc x && isLocal sc y && decide (x ≠ y) && py.line == px.line && !([a, b].all (foldedForSure 8)) && !([a, b].all (constantsAlone 8)) then match idx c.N x, idx c.N y, compE c n sc false a, compE c n sc false b with
      | some i, some j, some p, some q => if notStar a && notStar b then some (.par i j p q) else none
      | _, _, _, _ => none else none
    | _, .Tuple .. => none
    | _, _ => match compTg c.N sc (fun _ => true) n tg, compE c n sc false e with
      | some t, some p => some (.asg t p)
      | _, _ => none
  | .Subscript (.Name x _) k _ => if isComp e then none else if visB sc x && dbB x then match idx c.N x, compE c n sc true k, compE c n sc false e with
    | some i, some q, some p => if notSlice k then some (.seti i q p) else none
    | _, _, _ => none else none
  | _ => none
def compFI (n : Nat) (sc : Scope) (tg it : Expr) : Option It := compFIg c (compE c n sc) (compI c n true sc) sc tg it
mutual
def compS : Nat → Scope → Stmt → Option Stm
  | 0, _, _ => none
  | n + 1, sc, st => match st with
    | .Assign [tg] e _ => compAsg c n sc tg e
    | .AugAssign (.Name x _) op e _ => if locB sc x && dbB x then match idx c.N x, boOf op, compE c n sc true e with
      | some i, some o, some p => if augO o then some (.aug i o p) else none
      | _, _, _ => none else none
    | .Expr e _ => match e with
      | .Call (.Attribute (.Name x _) m ap) [a] [] cp => if m = "append" then (if visB sc x && dbB x && notStar a && ap.endLine == cp.line then match idx c.N x, compE c n sc false a with
        | some i, some p => some (.app i p)
        | _, _ => none else none) else none
      | _ => if isComp e then none else (compE c n sc true e).map .exp
    | .Return none _ => some .retN
    | .Return (some e) _ => match compE c n sc false e with
      | some p => if c.fr then (if isF (kd p) then some (.retM p) else none) else some (.ret p)
      | none => none
    | .If t a b _ => match compE c n sc true t, compSs n sc a, compSs n sc b with
      | some p, some q, some r => some (.ife p q r)
      | _, _, _ => none
    | .While t b [] _ => match compE c n sc true t, compSs n sc b with
      | some p, some q => some (.whl p q)
      | _, _ => none
    | .For tg it b [] _ => if notSet it then match compTg c.N sc (fun _ => true) n tg, compFI c n sc tg it, compSs n sc b with
      | some t, some i, some q => some (.for t i q)
      | _, _, _ => none else none
    | .Raise (some (.Call (.Name x _) es [] _)) none _ => if glB sc x && dbB x && es.all notStar then match c.rais.lookup x, compAs (compE c n sc) (List.replicate es.length false) es with
      | some (k, fs), some ps => if es.length = fs.length then some (.rai k fs ps) else none
      | _, _ => none else none
    | .Try b [.ExceptHandler (some (.Name x _)) (some m) (s0 :: ss) _] [] [] _ => if glB sc x && dbB x && isLocal sc m && dbB m then match c.exn.lookup x, idx c.N m, compSs n sc b, compXSs c m n sc (s0 :: ss) with
      | some ks, some i, some p, some q => some (.trx p ks (some i) q)
      | _, _, _, _ => none else none
    | .Pass _ => some .pas
    | .Break _ => some .brk
    | .Continue _ => some .cnt
    | _ => none
def compSs : Nat → Scope → List Stmt → Option (List Stm)
  | 0, _, _ => none
  | n + 1, sc, [] => some []
  | n + 1, sc, a :: b => match compS n sc a, compSs n sc b with
    | some p, some q => some (p :: q)
    | _, _ => none
end
end
section
variable {F : Fs} {T : Tb} {c : CT} {sc : Scope} {ow : Str → Bool} {W : WX} {X : Cx} {p q : Ex} {n : Nat}
structure OkS (T : Tb) (N : List Str) (sc : Scope) (W : WX) (X : Cx) : Prop where
  ok : Ok T N sc (fun _ => true) W X
  po : PassesOwn (model X.prog X.w) X.A X.env X.xe
  kind : sc.kind = .function
  hs : X.stack = X.env :: X.outer
  hf : X.env.frame = some X.env.locals
theorem sw_no {e : Expr} (h : isComp e = false) (t : Option Expr) (l : Nat) (env : PySem.Env) : swapsWith e t l env = pure false := by
  cases e <;> first | rfl | cases h
theorem sws_no {e tg : Expr} (h : isComp e = false) (l : Nat) (env : PySem.Env) : swapsWithSole [tg] e l env = pure false := sw_no h _ _ _
theorem ss_no1 {e tg : Expr} (h : isTupTg tg = false) (env : PySem.Env) : swappedStores [tg] e env = pure none := by
  cases tg <;> first | rfl | cases h
theorem ss_no2 {e tg : Expr} (h : isSeqDisp e = false) (env : PySem.Env) : swappedStores [tg] e env = pure none := by
  cases tg <;> first | rfl | (cases e <;> first | rfl | cases h)
theorem swB_ok {el : Expr} {gs : List Comprehension} {scope : Scope} {pos py : Pos} {y : Str} {l : Nat} {env : PySem.Env} (hk : env.scope.kind = .function) : swapsWith (.ListComp el gs scope pos) (some (.Name y py)) l env = pure (swB env.scope y py pos scope) := by
  have hb : env.blockKind = .function := by unfold Env.blockKind; rw [hk]; rfl
  unfold swapsWith
  simp only [hb, Expr.pos, Env.kindOf, swB]
  rfl
theorem sf_none {sc : Scope} {x : Str} (h : isLocal sc x = true) : sc.names.lookup x = some .local := by
  unfold isLocal at h
  split at h
  · assumption
  · cases h
theorem ss_par {x y : Str} {px py pt pt2 : Pos} {kt k2 : Nat} {a b : Expr} {env : PySem.Env} (hk : env.scope.kind = .function) (hx : env.scope.names.lookup x = some .local) (hy : env.scope.names.lookup y = some .local) (hne : x ≠ y) (hsa : notStar a = true) (hsb : notStar b = true)
    (hln : (py.line == px.line) = true) (hf : ([a, b].all (foldedForSure 8)) = false) (hc : ([a, b].all (constantsAlone 8)) = false) :
    swappedStores [.Tuple [.Name x px, .Name y py] kt pt] (.Tuple [a, b] k2 pt2) env = pure (some [x, y]) := by
  have hb : env.blockKind = .function := by unfold Env.blockKind; rw [hk]; rfl
  have kx : env.kindOf x = some .local := hx
  have ky : env.kindOf y = some .local := hy
  have hne' : (x == y) = false := by simpa using hne
  have hne2 : (y == x) = false := by simpa using (Ne.symm hne)
  have hd : ([x, y] : List Str).eraseDups = [x, y] := by
    simp [List.eraseDups_cons, hne, Ne.symm hne, hne', hne2]
  unfold swappedStores
  simp only [hb, List.length_cons, List.length_nil, List.head?_cons, Option.map_some, Option.getD_some, Expr.pos, List.filterMap_cons, List.filterMap_nil, kx, ky, hln, hf, hc, beq_self_eq_true, Bool.and_self, Bool.true_and, if_true, hd]
  refine Eq.trans (if_neg (by decide)) ?_
  refine Eq.trans (if_neg ?_) ?_
  · simp only [List.any_cons, List.any_nil, Bool.or_false]
    cases a <;> first | (cases hsa; done) | (cases b <;> first | (intro z; cases z; done) | (cases hsb; done))
  · rfl
theorem gens_of {n : Nat} {b : Bool} {el : Expr} {gens : List Comprehension} {scope : Scope} {pos : Pos} (h : compE c (n + 1) sc b (.ListComp el gens scope pos) = some p) :
    (∃ tg it ifs, gens = [⟨tg, it, ifs, 0⟩]) ∨ ∃ tg it ifs tg1 it1 ifs1, gens = [⟨tg, it, ifs, 0⟩, ⟨tg1, it1, ifs1, 0⟩] := by
  match gens, h with
  | [⟨tg, it, ifs, ia⟩], h =>
    by_cases e0 : ia = 0
    · subst e0
      exact .inl ⟨_, _, _, rfl⟩
    · exfalso
      revert h
      simp [compE, e0]
  | [⟨tg, it, ifs, ia⟩, ⟨tg1, it1, ifs1, ia1⟩], h =>
    by_cases e0 : ia = 0 ∧ ia1 = 0
    · obtain ⟨rfl, rfl⟩ := e0
      exact .inr ⟨_, _, _, _, _, _, rfl⟩
    · exfalso
      revert h
      unfold compE
      split <;> simp_all
  | [], h => cases h
  | _ :: _ :: _ :: _, h => simp [compE] at h
theorem PSasg.imp {tg e : Expr} {pos : Pos} {te te' : TE} {g : TG} (h : PS X (.Assign [tg] e pos) (tAsg te g)) (i : ∀ σ H Q, te' σ H Q → te σ H Q) : PS X (.Assign [tg] e pos) (tAsg te' g) := PS.imp h fun D σ H z => i σ H _ z
theorem kd_lc {n : Nat} {b : Bool} {el : Expr} {gens : List Comprehension} {scope : Scope} {pos : Pos} (tb : Tabs T F c) (ok : Ok T c.N sc ow W X) (h : compE c (n + 1) sc b (.ListComp el gens scope pos) = some p) : kd p = .f := by
  obtain ⟨IE, II⟩ := both_ok tb n
  rcases gens_of h with ⟨tg, it, ifs, rfl⟩ | ⟨tg, it, ifs, tg1, it1, ifs1, rfl⟩
  · obtain ⟨i, t, co, p1, rfl, _⟩ := lc_parts tb IE II ok h
    rfl
  · obtain ⟨i, t, co, i1, t1, co1, p1, rfl, _⟩ := lc2_parts tb IE II ok h
    rfl
theorem asg_ok (tb : Tabs T F c) (ok : OkS T c.N sc W X) {n : Nat} {tg e : Expr} {pos : Pos} {st : Stm} (h : compAsg c n sc tg e = some st) : PS X (.Assign [tg] e pos) (tS F T.g W st) := by
  have o := ok.ok
  have hkx : X.env.scope.kind = .function := by rw [o.sc]; exact ok.kind
  have IE := (both_ok tb n).1
  unfold compAsg at h
  split at h
  · rename_i x px
    split at h
    · rename_i hl
      simp only [Bool.and_eq_true] at hl
      split at h
      · rename_i i p h1 h2
        have hi : X.N[i]? = some x := by rw [o.hN]; exact idx_ok h1
        have hx := loc_of hl.1 o.sc
        have hf : X.fn x = true ∨ X.env.scope.names.lookup x = some .local := o.fn x rfl
        have hp := IE _ _ _ _ h2 o
        have plain : ∀ {e : Expr}, swapsWith e (some (.Name x px)) pos.line X.env = pure false → POk F T W X false e p → (if isF (kd p) then some (Stm.own i p) else some (.asg (.nm i) p)) = some st → PS X (.Assign [.Name x px] e pos) (tS F T.g W st) := fun {e} hs hp h => by
          split at h
          · rename_i hk
            cases h
            have hk' : kd p = .f := by
              cases q : kd p <;> rw [q] at hk <;> first | rfl | cases hk
            have h0 := hp.1
            rw [hk'] at h0
            exact s_own (ps_set o.nd hi hx h0 hs hf)
          · cases h
            exact s_asg (t := .nm i) (ps_set o.nd hi hx (pok_k hp) hs hf)
        split at h
        · -- a comprehension
          rename_i e0 el gens scope lpos
          cases h
          cases n with
          | zero => cases h2
          | succ m =>
            have hk := kd_lc tb o h2
            by_cases hsw : swB X.env.scope x px lpos scope = true
            · have hs : swapsWith (.ListComp el gens scope lpos) (some (.Name x px)) pos.line X.env = pure true := by rw [swB_ok hkx, hsw]
              have hloc : X.env.scope.names.lookup x = some .local := by
                unfold swB at hsw
                simp only [Bool.and_eq_true] at hsw
                simpa using hsw.1.1
              obtain ⟨IE', II'⟩ := both_ok tb m
              refine s_own ?_
              rcases gens_of h2 with ⟨tg, it, ifs, rfl⟩ | ⟨tg, it, ifs, tg1, it1, ifs1, rfl⟩
              · obtain ⟨i', t, co, p1, rfl, a1, a2, a3, a4, a5, a6, a7⟩ := lc_parts tb IE' II' o h2
                exact PSasg.imp (ps_setLcX o.calm o.nd o.tp hi hloc hs a1 a2 a3 a4 a5 a6) fun σ H Q ⟨w0, w, ρ, s, e, G0, h⟩ => by
                  subst e
                  exact lc_read a7 G0 h
              · obtain ⟨i', t, co, i1, t1, co1, p1, rfl, a1, a2, a3, a4, a5, a6, a7, a8, a9, a10, a11, a12⟩ := lc2_parts tb IE' II' o h2
                exact PSasg.imp (ps_setLc2 (vs1 := slots t1) o.calm o.nd hi hloc hs a1 a2 a10 a3 a11 a4 a5 a12 a6 a7 a8) fun σ H Q ⟨w0, w, ρ, s, e, G0, h⟩ => by
                  subst e
                  exact lc2_read a9 (fun j hj => hj) G0 h
            · have hs : swapsWith (.ListComp el gens scope lpos) (some (.Name x px)) pos.line X.env = pure false := by
                rw [swB_ok hkx]
                simp only [Bool.not_eq_true] at hsw
                rw [hsw]
              have h0 := hp.1
              rw [hk] at h0
              exact s_own (ps_set o.nd hi hx h0 hs hf)
        · cases h
        · cases h
        · rename_i n1 n2 n3
          refine plain (sw_no ?_ _ _ _) hp h
          cases e with
          | ListComp a b c d => exact absurd rfl (n1 a b c d)
          | SetComp a b c d => exact absurd rfl (n2 a b c d)
          | DictComp a b c d f => exact absurd rfl (n3 a b c d f)
          | _ => rfl
      · cases h
    · cases h
  · rename_i ts k tp
    split at h
    · cases h
    · rename_i hcomp
      simp only [Bool.not_eq_true] at hcomp
      split at h
      · rename_i x px y py a b k2 p2
        split at h
        · rename_i hc
          simp only [Bool.and_eq_true, Bool.not_eq_true', decide_eq_true_eq] at hc
          obtain ⟨⟨⟨⟨⟨c1, c2⟩, c3⟩, c4⟩, c5⟩, c6⟩ := hc
          split at h
          · rename_i i j p q h1 h2 h3 h4
            split at h
            · rename_i hst
              simp only [Bool.and_eq_true] at hst
              cases h
              have lx : X.env.scope.names.lookup x = some .local := by rw [o.sc]; exact sf_none c1
              have ly : X.env.scope.names.lookup y = some .local := by rw [o.sc]; exact sf_none c2
              have hij : i ≠ j := fun z => c3 (by
                have e1 := idx_ok h1
                have e2 := idx_ok h2
                rw [z, e2] at e1
                exact (Option.some.inj e1).symm)
              have ha : PA X [a, b] (tA F T.g W [false, false] [p, q]) := r_consK hst.1 (pok_k (IE _ _ _ _ h3 o)) (r_consK hst.2 (pok_k (IE _ _ _ _ h4 o)) r_nil)
              exact s_par (ps_par o.calm o.nd (by rw [o.hN]; exact idx_ok h1) (by rw [o.hN]; exact idx_ok h2) hij lx ly ha (ss_par hkx lx ly c3 hst.1 hst.2 c4 c5 c6) rfl)
            · cases h
          · cases h
        · cases h
      · cases h
      · rename_i n2
        split at h
        · rename_i t p h1 h2
          cases h
          refine s_asg (ps_asg (pok_k (IE _ _ _ _ h2 o)) (tg_ok o n h1) (sws_no hcomp _ _) (ss_no2 ?_ _) rfl)
          cases e with
          | Tuple a b c => simp_all
          | _ => rfl
        · cases h
  · rename_i x xp k sp
    split at h
    · cases h
    · rename_i hcomp
      simp only [Bool.not_eq_true] at hcomp
      split at h
      · rename_i hv
        simp only [Bool.and_eq_true] at hv
        split at h
        · rename_i i q p h1 h2 h3
          split at h
          · rename_i hns
            cases h
            obtain ⟨d1, d2, d3⟩ := db_of hv.2
            have hpv : PE X (.Name x xp) (tVar i) := pe_var (by rw [o.hN]; exact idx_ok h1) (vis_of hv.1 o.sc) d1 d2
            exact s_seti (ps_asg (pok_k (IE _ _ _ _ h3 o)) (pg_sub hpv (IE _ _ _ _ h2 o).1 set_list (by cases k <;> first | (intro v; rfl) | (cases hns; done))) (sws_no hcomp _ _) (ss_no1 rfl _) rfl)
          · cases h
        · cases h
      · cases h
  · cases h
theorem fi_ok (tb : Tabs T F c) {n : Nat} (ok : Ok T c.N sc ow W X) {tg it : Expr} {i : It} (h : compFI c n sc tg it = some i) : PI X tg it (tIt true F T.g W i) := by
  obtain ⟨IE, II⟩ := both_ok tb n
  exact fig_ok tb (fun _ _ _ z => IE _ _ _ _ z ok) (fun _ _ z tg => II _ _ _ _ z ok tg) ok h
theorem attr_base {x : Str} {m : Str} {px : Pos} {env : PySem.Env} (w : Sem Value) : attributeBase (.Name x px) m env w = w := rfl
mutual
theorem st_ok (tb : Tabs T F c) : ∀ (n : Nat) {sc : Scope} {W : WX} {X : Cx} {st : Stmt} {s : Stm}, OkS T c.N sc W X → compS c n sc st = some s → PS X st (tS F T.g W s)
  | 0, _, _, _, _, _, _, h => by cases h
  | n + 1, sc, W, X, st, s, ok, h => by
    have o := ok.ok
    obtain ⟨IE, II⟩ := both_ok tb n
    unfold compS at h
    split at h
    · exact asg_ok tb ok h
    · rename_i x px op e pos
      split at h
      · rename_i hl
        simp only [Bool.and_eq_true] at hl
        split at h
        · rename_i i o' p h1 h2 h3
          split at h
          · rename_i ho
            cases h
            have e1 := boOf_ok h2
            subst e1
            exact s_aug o' ho o.nd (by rw [o.hN]; exact idx_ok h1) (loc_of hl.1 o.sc) (o.fn x rfl) (IE _ _ _ _ h3 o).1
          · cases h
        · cases h
      · cases h
    · rename_i e pos
      split at h
      · rename_i x px m ap a cp
        split at h
        · rename_i hm
          subst hm
          split at h
          · rename_i hc
            simp only [Bool.and_eq_true] at hc
            obtain ⟨⟨⟨c1, c2⟩, c3⟩, c4⟩ := hc
            split at h
            · rename_i i p h1 h2
              cases h
              obtain ⟨d1, d2, d3⟩ := db_of c2
              have hpv : PE X (.Name x px) (tVar i) := pe_var (by rw [o.hN]; exact idx_ok h1) (vis_of c1 o.sc) d1 d2
              have ha : PA X [a] (tCons (tI F T.g W .k p) tNil) := pa_cons (pok_k (IE _ _ _ _ h2 o)) pa_nil (starEach_of c3 _ _)
              refine s_app rfl o.K (pe_bm PySem.F.plainAttrs_list PySem.F.slot_list_append PySem.F.type_list_append mt_append hpv ha rfl ?_ c4 (starEach_of c3 _ _) rfl)
              rw [starEach_of c3]
              rfl
            · cases h
          · cases h
        · cases h
      · split at h
        · cases h
        · rename_i hcomp
          simp only [Bool.not_eq_true] at hcomp
          obtain ⟨q, e1, rfl⟩ := Option.map_eq_some_iff.mp h
          exact s_exp (sw_no hcomp _ _ _) (IE _ _ _ _ e1 o).1
    · cases h; exact s_retN
    · split at h
      · rename_i q e1
        split at h
        · split at h
          · rename_i hq
            cases h
            refine s_retM ?_
            have z := (IE _ _ _ _ e1 o).1
            have hf : kd q = .f := by
              revert hq
              cases kd q <;> intro hq <;> first | rfl | cases hq
            rw [hf] at z
            exact z
          · cases h
        · cases h
          exact s_ret (pok_k (IE _ _ _ _ e1 o))
      · cases h
    · split at h
      · rename_i p q r h1 h2 h3
        cases h
        exact s_ife (IE _ _ _ _ h1 o).2.2 (sts_ok tb n ok h2) (sts_ok tb n ok h3)
      · cases h
    · split at h
      · rename_i p q h1 h2
        cases h
        exact s_whl ok.po (IE _ _ _ _ h1 o).2.2 (sts_ok tb n ok h2)
      · cases h
    · split at h
      · rename_i hns
        split at h
        · rename_i t i q h1 h2 h3
          cases h
          exact s_for (ps_for ok.po o.calm (fi_ok tb o h2) (tg_ok o n h1) (sts_ok tb n ok h3) (fsi_of hns _))
        · cases h
      · cases h
    · rename_i x xp es cp pos
      split at h
      · rename_i hc
        simp only [Bool.and_eq_true] at hc
        obtain ⟨⟨hg, hd⟩, hs⟩ := hc
        split at h
        · rename_i k fs ps h1 h2
          split at h
          · rename_i hl
            cases h
            have hf : ∀ b e p, compE c n sc b e = some p → POk F T W X b e p := fun b e p h => IE sc b e p h o
            exact tb.rais _ _ _ h1 o hl hs (as_ok hf h2).2.2 (gl_of hg o.sc) (db_of hd).1 (as_ok hf h2).1
          · cases h
        · cases h
      · cases h
    · rename_i b x xp m s0 ss hp pos
      split at h
      · rename_i hc
        simp only [Bool.and_eq_true] at hc
        obtain ⟨⟨⟨hg, hd⟩, hl⟩, hm⟩ := hc
        split at h
        · rename_i ks i p q h1 h2 h3 h4
          cases h
          obtain ⟨d1, d2, d3⟩ := db_of hd
          obtain ⟨cv, c1, c2⟩ := tb.exn _ _ h1
          have hn : Names X x cv := ⟨gl_of hg o.sc, d1, by
            cases c1 with
            | own e => exact .inl (by rw [o.mg]; exact e)
            | blt e1 e2 e3 => exact .inr ⟨by rw [o.mg]; exact e1, e2, e3⟩⟩
          have hkl : X.env.kindOf m = some .local := by
            show X.env.scope.names.lookup m = some .local
            rw [o.sc]
            exact sf_none hl
          refine s_trx ok.hs ok.hf o.nd (by rw [o.hN]; exact idx_ok h2) hkl hn o.tk o.K (fun k C hC => (c2 k C hC).1) (fun W' pn xe tk po => sts_ok tb n ⟨⟨o.P, o.w, o.K, o.mg, o.base, o.calm, o.hN, o.nd, o.sc, o.room, o.gd, tk, Top.of_def tk ok.hs ok.hf, o.fn⟩, po, ok.kind, ok.hs, ok.hf⟩ h3) fun a oe d pn k C hC hz hv => ?_
          exact xs_ok (T := T.wx (some (a, d, k))) (X := X.suite a ((a, oe) :: pn)) (tb.toX _) ⟨o.K, o.mg, o.hN, o.sc, fun a' d' k' e => by
            cases e
            exact ⟨X, oe, pn, C, rfl, hC, hz, hv⟩⟩ n h4
        · cases h
      · cases h
    · cases h; exact s_pas
    · cases h; exact s_brk
    · cases h; exact s_cnt
    · cases h
theorem sts_ok (tb : Tabs T F c) : ∀ (n : Nat) {sc : Scope} {W : WX} {X : Cx} {st : List Stmt} {s : List Stm}, OkS T c.N sc W X → compSs c n sc st = some s → PSs X st (tSs F T.g W s)
  | 0, _, _, _, _, _, _, h => by cases h
  | n + 1, sc, W, X, [], s, ok, h => by cases h; exact s_nil
  | n + 1, sc, W, X, a :: b, s, ok, h => by
    have h' : (match compS c n sc a, compSs c n sc b with
      | some p, some q => some (p :: q)
      | _, _ => none) = some s := h
    split at h'
    · rename_i p q h1 h2
      cases h'
      exact s_cons (st_ok tb n ok h1) (sts_ok tb n ok h2)
    · cases h'
end
/-! ### a def keeps the promise of its plain function -/
theorem start_good {g : G} {w : Ws} {s : List D} {vs : List V} {ds : List D} {ms : List Bool} (B : Base g w s) (h : Ps g w ms vs ds) (m : Nat) :
    Good g w w ((ds.zipIdx.map fun (a, i) => if ms[i]? = some true then Sl.br a else Sl.im a) ++ List.replicate (m - ds.length) .un) s (vs.map some ++ List.replicate (m - vs.length) none) := by
  have hl := h.length
  have ix : ∀ {i : Nat} {x : Sl}, ((ds.zipIdx.map fun (a, i) => if ms[i]? = some true then Sl.br a else Sl.im a) ++ List.replicate (m - ds.length) .un)[i]? = some x → x ≠ .un → ∃ d, ds[i]? = some d ∧ x = if ms[i]? = some true then Sl.br d else Sl.im d := fun {i x} e hx => by
    rw [List.getElem?_append] at e
    split at e
    · rw [List.getElem?_map, List.getElem?_zipIdx] at e
      obtain ⟨⟨d, j⟩, e1, e2⟩ := Option.map_eq_some_iff.mp e
      obtain ⟨d', e3, e4⟩ := Option.map_eq_some_iff.mp e1
      cases e4
      simp only [Nat.zero_add] at e2
      exact ⟨_, e3, e2.symm⟩
    · rw [List.getElem?_replicate] at e
      split at e
      · cases e; exact absurd rfl hx
      · cases e
  have vx : ∀ {i : Nat} {d : D}, ds[i]? = some d → ∃ v, (vs.map some ++ List.replicate (m - vs.length) none)[i]? = some (some v) ∧ (if ms[i]? = some true then Tr g w v d else Rw g w v d) := fun {i d} e => by
    have key : ∀ {ms : List Bool} {vs : List V} {ds : List D} {i : Nat} {d : D}, Ps g w ms vs ds → ds[i]? = some d → ∃ v, vs[i]? = some v ∧ (if ms[i]? = some true then Tr g w v d else Rw g w v d) := by
      intro ms vs ds i d h
      induction h generalizing i with
      | nil => intro e; simp at e
      | k r _ ih =>
        intro e
        cases i with
        | zero => simp at e; subst e; exact ⟨_, rfl, by simpa using r⟩
        | succ i =>
          obtain ⟨v, e1, e2⟩ := ih (i := i) (by simpa using e)
          exact ⟨v, by simpa using e1, by simpa using e2⟩
      | b r _ ih =>
        intro e
        cases i with
        | zero => simp at e; subst e; exact ⟨_, rfl, by simpa using r⟩
        | succ i =>
          obtain ⟨v, e1, e2⟩ := ih (i := i) (by simpa using e)
          exact ⟨v, by simpa using e1, by simpa using e2⟩
    obtain ⟨v, e1, e2⟩ := key h e
    refine ⟨v, ?_, e2⟩
    have hi := (List.getElem?_eq_some_iff.mp e1).1
    rw [List.getElem?_append_left (by rw [List.length_map]; exact hi), List.getElem?_map, e1]
    rfl
  refine ⟨B, Step.refl w, fun a o h _ => h, by simp [hl], fun i d e => ?_, fun i d e => ?_, fun i d e => ?_, fun i j d d' a e _ _ _ => ?_, fun i c fs e => by
      obtain ⟨d', e1, e2⟩ := ix e (by intro z; cases z)
      split at e2 <;> cases e2⟩
  · obtain ⟨d', e1, e2⟩ := ix e (by intro z; cases z)
    obtain ⟨v, e3, e4⟩ := vx e1
    split at e2
    · cases e2
    · cases e2
      rename_i hm
      rw [if_neg hm] at e4
      exact ⟨v, e3, e4⟩
  · obtain ⟨d', e1, e2⟩ := ix e (by intro z; cases z)
    split at e2 <;> cases e2
  · obtain ⟨d', e1, e2⟩ := ix e (by intro z; cases z)
    obtain ⟨v, e3, e4⟩ := vx e1
    split at e2
    · rename_i hm
      cases e2
      rw [if_pos hm] at e4
      exact ⟨v, e3, e4⟩
    · cases e2
  · obtain ⟨d', e1, e2⟩ := ix e (by intro z; cases z)
    split at e2 <;> cases e2
theorem fn_ok {qx qual : Str} {st : Stmt} {f : Addr} {fd : FuncData} {psn : List Str} {ms : List Bool} {body : List Stm} {n : Nat} (FN : L2.Fun T.g.K qx qual st f fd) (S : FnScope c.N psn (defScope st)) (tb : Tabs T F c) (hb : compSs c n (defScope st) (defBody st) = some body) (hg : T.gd = false := by rfl) :
    FnOk T.P T.w T.g.K T.mg T.base (L2.CX T.P T.w) (T.k + 1) f fd psn (spD T.g ms psn.length (run F body ms c.N.length)) := by
  refine FN.okX S (fun vs H Q E h => h.1) fun cdv A outer s H vs Q E hr h => ?_
  have hgd : T.gd = true → (A.deeper (envOfC qx (defScope st) s.heap.objs.size f cdv)).guards = some [] := fun z => by rw [hg] at z; cases z
  obtain ⟨hl, w, sd, ds, eH, B, hp, go⟩ := h
  refine ⟨tSs F T.g (fun cls d _ H => E cls d H) body, sts_ok tb n ⟨⟨rfl, rfl, rfl, rfl, rfl, rfl, rfl, S.nd, rfl, hr, hgd, takes_of rfl rfl rfl rfl, Top.of_def (takes_of rfl rfl rfl rfl) rfl rfl, fun x _ => .inl rfl⟩, passes_of rfl, S.kind, rfl, rfl⟩ hb, ?_⟩
  have hdl : ds.length = vs.length := hp.length.symm
  have G0 := start_good B hp c.N.length
  rw [hdl] at G0
  refine ⟨w, w, _, sd, eH, G0, ?_⟩
  unfold GoC run at go
  rw [hdl] at go
  cases q : exs F body ((ds.zipIdx.map fun (a, i) => if ms[i]? = some true then Sl.br a else Sl.im a) ++ List.replicate (c.N.length - vs.length) .un) sd with
  | nx ρ s1 =>
    rw [q] at go
    exact fun w' σ G1 K => go .non w' G1.base G1.ext G1.new .non
  | rt d s1 =>
    rw [q] at go
    exact fun v w' B1 S1 F1 r => go v w' B1 S1 F1 r
  | exc c fs ρ s1 =>
    rw [q] at go
    exact fun C d w' σ G1 hC hx => go C d w' G1.base G1.ext G1.new hC hx
  | bk ρ s1 => rw [q] at go; exact go.elim
  | ct ρ s1 => rw [q] at go; exact go.elim
  | bad => rw [q] at go; exact go.elim
end
end Z

namespace Z
open PySem PySem.Spec PyProof.Rows L2
section
variable {F : Fs} {T : Tb} {c : CT}
theorem body_ok {psn : List Str} {ms : List Bool} {scope : Scope} {bodyS : List Stmt} {body : List Stm} {n : Nat} {qual : Str} {f : Addr} (S : FnScope c.N psn scope) (tb : Tabs T F c) (hb : compSs c n scope bodyS = some body) (cdv : Value) (A : Around) (outer : List PySem.Env) (s : Shared) (H : Hp) (vs : List V) (Q : VK) (E : XK)
    (hr : Room T.k (A.deeper (envOfC qual scope s.heap.objs.size f cdv))) (hgd : T.gd = true → (A.deeper (envOfC qual scope s.heap.objs.size f cdv)).guards = some []) (h : spD T.g ms psn.length (run F body ms c.N.length) vs H Q E) :
    ∃ t, PSs (cxOf (L2.CX T.P T.w) T.P T.w T.g.K T.mg T.base c.N qual scope f cdv A outer s H E) bodyS t ∧ t { nx := fun _ H' => Q .non H', rt := Q } (start c.N vs) H := by
  obtain ⟨hl, w, sd, ds, eH, B, hp, go⟩ := h
  refine ⟨tSs F T.g (fun cls d _ H => E cls d H) body, sts_ok tb n ⟨⟨rfl, rfl, rfl, rfl, rfl, rfl, rfl, S.nd, rfl, hr, hgd, takes_of rfl rfl rfl rfl, Top.of_def (takes_of rfl rfl rfl rfl) rfl rfl, fun x _ => .inl rfl⟩, passes_of rfl, S.kind, rfl, rfl⟩ hb, ?_⟩
  have hdl : ds.length = vs.length := hp.length.symm
  have G0 := start_good B hp c.N.length
  rw [hdl] at G0
  refine ⟨w, w, _, sd, eH, G0, ?_⟩
  unfold GoC run at go
  rw [hdl] at go
  cases q : exs F body ((ds.zipIdx.map fun (a, i) => if ms[i]? = some true then Sl.br a else Sl.im a) ++ List.replicate (c.N.length - vs.length) .un) sd with
  | nx ρ s1 =>
    rw [q] at go
    exact fun w' σ G1 K => go .non w' G1.base G1.ext G1.new .non
  | rt d s1 =>
    rw [q] at go
    exact fun v w' B1 S1 F1 r => go v w' B1 S1 F1 r
  | exc c fs ρ s1 =>
    rw [q] at go
    exact fun C d w' σ G1 hC hx => go C d w' G1.base G1.ext G1.new hC hx
  | bk ρ s1 => rw [q] at go; exact go.elim
  | ct ρ s1 => rw [q] at go; exact go.elim
  | bad => rw [q] at go; exact go.elim
/-- a def, its defaults dvs, keeps its plain function's promise -/
theorem fn_okD {qx qual : Str} {params : Arguments} {bodyS : List Stmt} {scope : Scope} {dvs : List V} {kws : List (Str × V)} {f : Addr} {fd : FuncData} {psn : List Str} {ms : List Bool} {body : List Stm} {n : Nat} (FN : FunD T.g.K qx qual params bodyS scope dvs kws f fd) (S : FnScope c.N psn scope) (tb : Tabs T F c)
    (hb : compSs c n scope bodyS = some body) (hg : T.gd = false := by rfl) : FnOk T.P T.w T.g.K T.mg T.base (L2.CX T.P T.w) (T.k + 1) f fd psn (spD T.g ms psn.length (run F body ms c.N.length)) :=
  FN.ok S (fun vs H Q E h => h.1) fun cdv A outer s H vs Q E hr h => body_ok S tb hb cdv A outer s H vs Q E hr (fun z => by rw [hg] at z; cases z) h
theorem funD_mk {K : PySem.W.Frag} {x qual : Str} {params : Arguments} {body : List Stmt} {scope : Scope} {f : Addr} {oc : Value} {od an : Option Addr} {osl : Array (Option Value)} {kV doc pm cdv ct : Value} (l : K.lookup f = some ⟨oc, od, .func (PySem.W.fnOf x qual params body scope .none kV doc pm an cdv ct), osl⟩)
    (c : PySem.W.codeIn K cdv qual = true) (k : PySem.W.keepIn K (.ref f) = true) : FunD K x qual params body scope [] [] f (PySem.W.fnOf x qual params body scope .none kV doc pm an cdv ct) :=
  ⟨⟨oc, od, .none, kV, doc, pm, an, cdv, ct, osl, rfl, l, c, .inl ⟨rfl, rfl⟩, .inl rfl⟩, k⟩
theorem funD_mkD {K : PySem.W.Frag} {x qual : Str} {params : Arguments} {body : List Stmt} {scope : Scope} {f : Addr} {oc : Value} {od an : Option Addr} {osl : Array (Option Value)} {kV doc pm cdv ct : Value} {dT : Addr} {o : Obj} {its : List Value} {n : Nat} {dvs : List V} (l : K.lookup f = some ⟨oc, od, .func (PySem.W.fnOf x qual params body scope (.ref dT) kV doc pm an cdv ct), osl⟩)
    (c : PySem.W.codeIn K cdv qual = true) (k : PySem.W.keepIn K (.ref f) = true) (lT : K.lookup dT = some o) (oT : o.data = .seq its.toArray n) (r : Vals dvs its) (hd : dvs ≠ []) : FunD K x qual params body scope dvs [] f (PySem.W.fnOf x qual params body scope (.ref dT) kV doc pm an cdv ct) :=
  ⟨⟨oc, od, .ref dT, kV, doc, pm, an, cdv, ct, osl, rfl, l, c, .inr ⟨hd, dT, o, its, n, rfl, lT, oT, r⟩, .inl rfl⟩, k⟩
/-! ### the tables -/
def Calls (T : Tb) (F : Fs) (cs : List CE) : Prop := ∀ ce, ce ∈ cs → ∃ fn, F ce.ck = some fn ∧ CallGood T ce fn
theorem Calls.nil : Calls T F [] := fun ce h => by simp at h
theorem Calls.cons {ce : CE} {cs : List CE} (h : ∃ fn, F ce.ck = some fn ∧ CallGood T ce fn) (t : Calls T F cs) : Calls T F (ce :: cs) := fun c h' => by
  rcases List.mem_cons.mp h' with rfl | h'
  · exact h
  · exact t c h'
theorem CallGood.congr {ce : CE} {fn fn' : Fn} (h : CallGood T ce fn) (e : ∀ as s, as.length = ce.n + ce.ks.length → fn as s = fn' as s) : CallGood T ce fn' := by
  intro F N sc ow W X ok es kws ps qs p pos h1 h2 h3 h4 h5 h6 h7 h8
  refine PE.imp (h ok h1 h2 h3 h4 h5 h6 h7 h8) fun σ H Q hw => tA_mono hw fun vs H1 h9 => tA_mono h9 fun zs H2 ⟨l, w, s, ds, a, b, c, d⟩ => ?_
  exact ⟨l, w, s, ds, a, b, c, by rw [e ds s (by rw [← c.length, l])]; exact d⟩
/-- a def: its parameters, its defaults, how many names, its body, what it borrows -/
structure Df where
  ps : List Str
  dfs : List D
  n : Nat
  body : List Stm
  ms : List Bool
abbrev Prg := List (Str × Df)
def arrK (n : Nat) (ks : List Str) (as : List D) : List Str → List (Option D) → Nat → List D
  | p :: ps, o :: os, j => (if j < n then as.getD j .non else match idx ks p with | some m => as.getD (n + m) .non | none => o.getD .non) :: arrK n ks as ps os (j + 1)
  | _, _, _ => []
/-- the arguments in the parameters' order -/
def Df.arr (d : Df) (n : Nat) (ks : List Str) (as : List D) : List D := match ks with
  | [] => as ++ d.dfs.drop (n + d.dfs.length - d.ps.length)
  | k :: r => arrK n (k :: r) as d.ps (List.replicate (d.ps.length - d.dfs.length) none ++ d.dfs.map some) 0
/-- all defs, so many calls deep -/
def fnL (P : Prg) : Nat → Fs
  | 0 => fun ck => (P.lookup ck.1).map fun _ _ _ => Ou.bad
  | i + 1 => fun ck => (P.lookup ck.1).map fun d as s => run (fnL P i) d.body d.ms d.n (d.arr ck.2.1 ck.2.2 as) s
def dfn (P : Prg) (d : Df) : Nat → Fn
  | 0 => fun _ _ => .bad
  | i + 1 => run (fnL P i) d.body d.ms d.n
theorem fnL_eq {P : Prg} {x : Str} {d : Df} {i n : Nat} {ks : List Str} (h : P.lookup x = some d) : fnL P i (x, n, ks) = some (fun as s => dfn P d i (d.arr n ks as) s) := by
  cases i <;> (unfold fnL; rw [h]; rfl)
/-! ### the law's end -/
/-- the law's promise from its plain function: True for each list of ints of at most n -/
theorem law_sp {K : PySem.W.Frag} {cl ol : Nat → Option Addr} {fn : Fn} {n : Nat} (h : ∀ ns : List Int, ns.length ≤ n → ∃ s, fn [.scr ns] [] = .ok (.bl true) s) (H : Hp) (a : Addr) (ns : List Int) (hl : ns.length ≤ n) (hS : SqL K H a (ns.map V.int)) :
    spD ⟨K, cl, ol, none⟩ [false] 1 fn [.ref a] H (fun v _ => v = .bl true) fun _ _ _ => False := by
  obtain ⟨s, e⟩ := h ns hl
  refine ⟨rfl, ⟨[], H, H⟩, [], [.scr ns], rfl, ⟨fun b o q => ⟨q, by simp⟩, rfl, fun k b q => by simp at q, List.nodup_nil⟩, .k (.scr hS) .nil, ?_⟩
  rw [e]
  intro v w' B S Fr r
  cases r
  rfl
end
end Z

namespace Z
open PySem PySem.Spec PyProof.Rows L2
/-! ### a class from the facts of the text -/
def clsSt : Stmt → Nat → Stmt
  | .ClassDef (body := b) .., j => b.getD j (.Pass ⟨0, 0, 0, 0⟩)
  | s, _ => s
section
variable {K : PySem.W.Frag} {C D : Addr}
theorem kitCls_ref {t : Value} {b : Bool} (i : PySem.W.isClsIn K D = true) (ty : PySem.W.typeIn K (.ref D) = some (.type "type")) (s : PySem.W.subIn K t (.ref D) = some b) : PySem.W.kitCls K t (.ref D) = some b := by
  have i' : (PySem.W.clsIn K D).isSome = true := i
  show (if ((PySem.W.clsIn K D).isSome && PySem.W.typeIn K (.ref D) == some (.type "type")) = true then PySem.W.subIn K t (.ref D) else none) = some b
  rw [if_pos (by rw [i', ty] <;> rfl)]
  exact s
theorem exm_cls {t : Value} {b : Bool} (e : PySem.W.subIn K (.ref D) (.type "BaseException") = some true) (i : PySem.W.isClsIn K D = true) (ty : PySem.W.typeIn K (.ref D) = some (.type "type")) (s : PySem.W.subIn K t (.ref D) = some b) : PySem.W.exmOne K t (.ref D) = some b := by
  show (if (PySem.W.subIn K (.ref D) (.type "BaseException") == some true) = true then PySem.W.kitCls K t (.ref D) else none) = some b
  rw [if_pos (by rw [e] <;> rfl)]
  exact kitCls_ref i ty s
theorem kit_cls' {b : Bool} (i : PySem.W.isClsIn K D = true) (ty : PySem.W.typeIn K (.ref D) = some (.type "type")) (s : PySem.W.subIn K (.ref C) (.ref D) = some b) (h : C = D → b = true) : PySem.W.kitOne K (.ref C) (.ref D) = some b := by
  show (if ((Value.ref C : Value) == .ref D) = true then some true else PySem.W.kitCls K (.ref C) (.ref D)) = some b
  split
  · rename_i q
    rw [h (Value.ref.inj (beq_iff_eq.mp q))]
  · exact kitCls_ref i ty s
theorem exm_ty {t : Value} {b : Bool} {T : String} (e : PySem.W.subIn K (.type T) (.type "BaseException") = some true) (m : PySem.W.kitMeta T = true) (s : PySem.W.subIn K t (.type T) = some b) : PySem.W.exmOne K t (.type T) = some b := by
  show (if (PySem.W.subIn K (.type T) (.type "BaseException") == some true) = true then (if PySem.W.kitMeta T = true then PySem.W.subIn K t (.type T) else none) else none) = some b
  rw [if_pos (by rw [e] <;> rfl), if_pos m]
  exact s
theorem kit_tyX {b : Bool} {T : String} (m : PySem.W.kitMeta T = true) (s : PySem.W.subIn K (.ref C) (.type T) = some b) : PySem.W.kitOne K (.ref C) (.type T) = some b := by
  show (if ((Value.ref C : Value) == .type T) = true then some true else (if PySem.W.kitMeta T = true then PySem.W.subIn K (.ref C) (.type T) else none)) = some b
  rw [if_neg (by intro q; exact nomatch (beq_iff_eq.mp q)), if_pos m]
  exact s
theorem kc_of (ga : PySem.W.findIn K (.ref C) "__getattribute__" = some (some (.builtin "BaseException.__getattribute__"))) (gg : PySem.W.findIn K (.ref C) "__getattr__" = some none) (eC : PySem.W.subIn K (.ref C) (.type "BaseException") = some true) (hC : PySem.W.hasDictIn K C = true)
    (iC : PySem.W.isClsIn K C = true) (ha : PySem.W.findIn K (.ref C) "__class__" = some (some (.builtin "object.__class__"))) (hn : PySem.W.specialIn K (.builtin "object.__class__") "__get__" = some (some (.builtin "getset_descriptor.__get__"))) (ht : PySem.W.takesIn K (.builtin "object.__class__") = some true)
    (hm : PySem.W.mroIn K C (.type "object") = some true) : KC K C := ⟨⟨ga, gg, eC, hC⟩, iC, ha, hn, ht, hm⟩
theorem oex_of {nm q : Str} {N : Addr} {bs bm : List Value} {sn : List Str} {sub : List Value} {ab : Bool} {col : Option Bool} {dd : Option Addr} {m0 m1 m2 m3 m5 : Option Value} (xL : K.lookup C = some (excClassObj nm q C N bs bm true sn sub ab col dd m0 m1 m2 m3 m5 "ValueError.__new__")) (hb : PySem.HandSPX.refsVE bm = true)
    (sa : PySem.W.findIn K (.ref C) "__setattr__" = some (some (.builtin "object.__setattr__"))) (eC : PySem.W.subIn K (.ref C) (.type "BaseException") = some true) (tC : PySem.W.typeIn K (.ref C) = some (.type "type")) (kC : PySem.W.keepIn K (.ref C) = true) : OexC K C :=
  ⟨⟨nm, q, N, bs, bm, sn, sub, ab, col, dd, m0, m1, m2, m3, m5, xL, hb⟩, sa, eC, tC, kC⟩
/-- a written tuple as data -/
theorem rw_tup {cl ol : Nat → Option Addr} {xa} {a : Addr} {od : Option Addr} {its : List Value} {n : Nat} {sl : Array (Option Value)} {vs : List V} {ds : List Z.D} (l : K.lookup a = some ⟨.type "tuple", od, .seq its.toArray n, sl⟩) (hl : its.length ≤ 100000) (r : Vals vs its) (rs : ∀ (al : List Addr) (H : Hp), Rs K ol al H vs ds) (w : Ws) : Rw ⟨K, cl, ol, xa⟩ w (.ref a) (.tup ds) :=
  .tup (.inr ⟨_, its.toArray, n, l, rfl, rfl, by simpa using Nat.le_trans hl (by decide), by simpa using r⟩) (rs _ _)
end
end Z
namespace Z
open PySem PySem.Spec PyProof.Rows L2
/-- the law's promise, whatever the classes' addresses -/
def spL (K : PySem.W.Frag) (fn : Fn) : Sp := fun vs H Q E => ∀ cl ol : Nat → Option Addr, spD ⟨K, cl, ol, none⟩ [false] 1 fn vs H Q E
theorem fnOk_imp {P : Program} {w : World} {K : PySem.W.Frag} {mg : Str → Option Value} {base : Heap} {CX : CXT} {k : Nat} {f : Addr} {fd : FuncData} {ps : List Str} {sp sp' : Sp} (F : FnOk P w K mg base CX k f fd ps sp) (h : ∀ vs H Q E, sp' vs H Q E → sp vs H Q E) : FnOk P w K mg base CX k f fd ps sp' :=
  ⟨fun vs H Q E z => F.len vs H Q E (h _ _ _ _ z), fun A outer s H args us vs Q E a b c d e => F.run A outer s H args us vs Q E a b c d (h _ _ _ _ e)⟩
theorem law_spL {K : PySem.W.Frag} {fn : Fn} {n : Nat} (h : ∀ ns : List Int, ns.length ≤ n → ∃ s, fn [.scr ns] [] = .ok (.bl true) s) (H : Hp) (a : Addr) (ns : List Int) (hl : ns.length ≤ n) (hS : SqL K H a (ns.map V.int)) : spL K fn [.ref a] H (fun v _ => v = .bl true) fun _ _ _ => False :=
  fun cl ol => law_sp h H a ns hl hS
theorem fn_badAny {P : Program} {w : World} {K : PySem.W.Frag} {mg : Str → Option Value} {base : Heap} {CX : CXT} {k : Nat} {f : Addr} {fd : FuncData} {ps : List Str} {g : G} {ms : List Bool} : FnOk P w K mg base CX k f fd ps (spD g ms ps.length fun _ _ => .bad) :=
  ⟨fun vs H Q E z => z.1, fun A outer s H args us vs Q E a b c d e => by
    obtain ⟨_, _, _, _, _, _, _, h⟩ := e
    exact False.elim h⟩
/-- how a def ends -/
def runR : Fl → Ou
  | .nx _ s => .ok .non s
  | .rt d s => .ok d s
  | .exc c fs _ s => .exc c fs s
  | _ => .bad
end Z
namespace Z
open PySem PySem.Spec PyProof.Rows L2
def startE (as : List D) (ms : List Bool) (n : Nat) : En := (as.zipIdx.map fun (a, i) => if ms[i]? = some true then Sl.br a else Sl.im a) ++ List.replicate (n - as.length) .un
theorem run_eqE {F : Fs} {b : List Stm} {ms : List Bool} {n : Nat} {as : List D} {s : List D} {ρ : En} (h : startE as ms n = ρ) : run F b ms n as s = runR (exs F b ρ s) := by
  subst h
  unfold run runR startE
  cases exs F b ((as.zipIdx.map fun (a, i) => if ms[i]? = some true then Sl.br a else Sl.im a) ++ List.replicate (n - as.length) .un) s <;> rfl
end Z
namespace Z
open PySem PySem.Spec PyProof.Rows L2
theorem eqS_i (i j : Int) : eqS (.int i) (.int j) = some (decide (i = j)) := rfl
theorem eqS_s (i j : Str) : eqS (.str i) (.str j) = some (decide (i = j)) := rfl
theorem eqS_b (i j : Bool) : eqS (.bl i) (.bl j) = some (decide (i = j)) := rfl
end Z
namespace Z
open PySem PySem.Spec PyProof.Rows L2
section
variable {F : Fs} {a : Stm} {b c : List Stm} {ρ ρ' ρ'' : En} {s s' s'' : List D} {d x : D} {t : Tg} {e : Ex} {it : It} {xs : List D} {i : Nat}
theorem sq_nx (h : ex F a ρ s = .nx ρ' s') : exs F (a :: b) ρ s = exs F b ρ' s' := by
  show (ex F a ρ s).seq _ = _
  rw [h]; rfl
theorem sq_rt (h : ex F a ρ s = .rt d s') : exs F (a :: b) ρ s = .rt d s' := by
  show (ex F a ρ s).seq _ = _
  rw [h]; rfl
def lpB (F : Fs) (t : Tg) (b : List Stm) : D → En → List D → Fl := fun x ρ s => match bindT t x ρ with
  | some ρ' => exs F b ρ' s
  | none => .bad
theorem ex_for (h : evI F it ρ s = .ok x ρ' s') (hi : itemsOf x = some xs) : ex F (.for t it b) ρ s = lpF (lpB F t b) xs ρ' s' := by
  show (evI F it ρ s).fl _ = _
  rw [h]
  show (match itemsOf x with | some xs => lpF _ xs ρ' s' | none => Fl.bad) = _
  rw [hi]
  rfl
theorem ex_asg (h : ev F e false ρ s = .ok d ρ' s') (hb : bindT t d ρ' = some ρ'') : ex F (.asg t e) ρ s = .nx ρ'' s' := by
  show (ev F e false ρ s).fl _ = _
  rw [h]
  show (match bindT t d ρ' with | some ρ' => Fl.nx ρ' s' | none => Fl.bad) = _
  rw [hb]
theorem ex_own (h : ev F e false ρ s = .ok (.lst xs) ρ' s') (hi : i < ρ'.length) : ex F (.own i e) ρ s = .nx (ρ'.set i (.ow (.lst xs))) s' := by
  show (ev F e false ρ s).fl _ = _
  rw [h]
  exact if_pos ⟨hi, rfl⟩
theorem ex_ret (h : ev F e false ρ s = .ok d ρ' s') : ex F (.ret e) ρ s = .rt d s' := by
  show (ev F e false ρ s).fl _ = _
  rw [h]; rfl
theorem ex_ifT (h : ev F e true ρ s = .ok (.bl true) ρ' s') : ex F (.ife e b c) ρ s = exs F b ρ' s' := by
  show (ev F e true ρ s).fl _ = _
  rw [h]; rfl
theorem ex_ifF (h : ev F e true ρ s = .ok (.bl false) ρ' s') : ex F (.ife e b c) ρ s = exs F c ρ' s' := by
  show (ev F e true ρ s).fl _ = _
  rw [h]; rfl
theorem exs_nil : exs F [] ρ s = .nx ρ s := rfl
theorem ev_cl {f : CK} {ms : List Bool} {es : List Ex} {fn : Fn} {ds : List D} (h : evs F es ρ s = .ok ds ρ' s') (hf : F f = some fn) (q : fn ds s' = .ok d s'') : ev F (.call f ms es) false ρ s = .ok d ρ' s'' := by
  unfold ev
  rw [h]
  simp only [OutL.bind, callO, hf, q, fin]
theorem ev_cl' {f : CK} {ms : List Bool} {es : List Ex} {fn : Fn} {ds : List D} (h : evs F es ρ s = .ok ds ρ' s') (hf : F f = some fn) {k : Bool} (q : fn ds s' = .ok (.bl k) s'') : ev F (.call f ms es) true ρ s = .ok (.bl k) ρ' s'' := by
  unfold ev
  rw [h]
  simp only [OutL.bind, callO, hf, q, fin, Out.bind, truth, Option.map_some, Out.get]
theorem lp_nil {f : D → En → List D → Fl} : lpF f [] ρ s = .nx ρ s := rfl
theorem lp_nx {f : D → En → List D → Fl} (h : f x ρ s = .nx ρ' s') : lpF f (x :: xs) ρ s = lpF f xs ρ' s' := by
  rw [lpF, h]
theorem lpB_eq (h : bindT t x ρ = some ρ') : lpB F t b x ρ s = exs F b ρ' s := by
  unfold lpB
  rw [h]
end
end Z
namespace Z
open PySem PySem.Spec PyProof.Rows L2
/-! ### calls by name -/
class Has (P : Prg) (x : Str) (d : Df) : Prop where
  h : P.lookup x = some d
def Cl (P : Prg) (i : Nat) (ck : CK) (as : List D) (s : List D) : Ou := match fnL P i ck with
  | some f => f as s
  | none => .bad
def Ou.out (o : Ou) (ρ : En) : Out := match o with
  | .ok d s => .ok d ρ s
  | .exc c fs s => .exc c fs ρ s
  | .bad => .bad
theorem Ou.out_ok (d : D) (s : List D) (ρ : En) : (Ou.ok d s).out ρ = .ok d ρ s := rfl
theorem Ou.out_exc (c : Nat) (fs : List (Str × D)) (s : List D) (ρ : En) : (Ou.exc c fs s).out ρ = .exc c fs ρ s := rfl
theorem callO_L (P : Prg) (i : Nat) (ck : CK) (ds : List D) (ρ : En) (s : List D) : callO (fnL P i) ck ds ρ s = (Cl P i ck ds s).out ρ := by
  unfold callO Cl
  cases fnL P i ck with
  | none => rfl
  | some fn =>
    dsimp only
    cases fn ds s <;> rfl
/-- a call, one level down -/
theorem Cl_eq {P : Prg} {x : Str} {d : Df} [h : Has P x d] {i n : Nat} {ks : List Str} {as s : List D} {ρ : En} (hρ : startE (d.arr n ks as) d.ms d.n = ρ) : Cl P (i + 1) (x, n, ks) as s = runR (exs (fnL P i) d.body ρ s) := by
  unfold Cl
  rw [fnL_eq h.h]
  exact run_eqE hρ
/-- by other arguments: the same -/
theorem Cl_arr {P : Prg} {x : Str} {d : Df} [h : Has P x d] {i n m : Nat} {ks js : List Str} {as bs s : List D} (e : d.arr n ks as = d.arr m js bs) : Cl P i (x, n, ks) as s = Cl P i (x, m, js) bs s := by
  unfold Cl
  rw [fnL_eq h.h, fnL_eq h.h]
  dsimp only
  rw [e]
theorem dfn_Cl {P : Prg} {x : Str} {d : Df} [h : Has P x d] {i n : Nat} {as bs s : List D} (e : d.arr n [] as = bs) : dfn P d i bs s = Cl P i (x, n, []) as s := by
  unfold Cl
  rw [fnL_eq h.h, ← e]
end Z

namespace Z
open PySem PySem.Spec PyProof.Rows L2
/-! a law called by its caller alone: no guard of repr lies around it -/
structure LawG (P : Program) (w : World) (K : PySem.W.Frag) (mg : Str → Option Value) (base : Heap) (f : Addr) (sp : Sp) : Prop where
  run : ∀ (s : Shared) (H : Hp) (a : Addr) (Q : VK) (E : XK), Env0 P w K mg base callerA [] s H → sp [.ref a] H Q E →
    codeAny (model P w) callerA (.call (.ref f) ⟨[.ref a], []⟩) (CR (L2.CX P w) [] P w H s Q E) s
section
variable {F : Fs} {T : Tb} {c : CT}
theorem law_okG {qx qual x : Str} {params : Arguments} {bodyS : List Stmt} {scope : Scope} {f : Addr} {fd : FuncData} {body : List Stm} {n : Nat} (FN : FunD T.g.K qx qual params bodyS scope [] [] f fd) (S : FnScope c.N [x] scope) (tb : Tabs T F c)
    (hb : compSs c n scope bodyS = some body) (hr : Room (T.k + 1) callerA) (bd : ∀ (s : Shared) (u : Value), BindsTo s fd ⟨[u], []⟩ [(x, u)]) : LawG T.P T.w T.g.K T.mg T.base f (spD T.g [false] 1 (run F body [false] c.N.length)) := by
  obtain ⟨_, _, _, _, _, _, _, cdv, _, _, rfl, inK, code, _, _⟩ := FN.ex
  constructor
  intro s H a Q E env sp
  have here := env.mod.kin.keeps fun b o z => (env.bs b o z).1
  have free := env.mod.nolimit.keeps fun b o z => (env.bs b o z).1
  refine codeAny_call_function hr.depth (here _ _ inK) rfl S.co S.gen rfl (PySem.W.codeRec_of here code) (bd s (.ref a) _ _ _ _ ?_)
  refine wpAny_newFunctionEnv_cells S.kind (binds := [(x, .ref a)]) (fun y hy => ?_) fun e0 he s1 made => ?_
  · obtain rfl := List.mem_singleton.mp hy
    rcases S.par x (by simp) with z | z
    · exact .inl z
    · exact .inr ⟨z, PySem.W.cellsFrom_some _ _ _ (.inl z)⟩
  · subst he
    refine ⟨free.keeps made.toInCall.keep, codeAny_func ?_⟩
    obtain ⟨t, good, holds⟩ := body_ok S tb hb cdv callerA [] s H [.ref a] Q E (hr.deeper _) (fun _ => rfl) sp
    have begun := inv_start (CX := L2.CX T.P T.w) (E := E) (us := [.ref a]) (vs := [.ref a]) S hr.hd env rfl (.cons rfl .nil) made
    refine wpAny_mono (good.run [] s1 (start c.N [.ref a]) H _ begun holds) (fun how s2 ended => ?_) fun _ _ z => z
    cases how with
    | brk => exact ended.choose_spec.choose_spec.2.elim
    | cont => exact ended.choose_spec.choose_spec.2.elim
    | next =>
      obtain ⟨_, H2, J, q⟩ := ended
      exact ⟨.non, H2, J.os, J.bare, J.base, J.hok, rfl, q⟩
    | ret u =>
      obtain ⟨v, _, H2, J, rv, q⟩ := ended
      exact ⟨v, H2, J.os, J.bare, J.base, J.hok, rv, q⟩
end
/-- what the caller hands over, tracked unless it is one of the module's own things -/
def handed (K : PySem.W.Frag) (a : Addr) (o : Obj) (ns : List Int) : Hp := fun b => if b = a ∧ K.lookup a = none then some (.frz o (.lst (ns.map V.int))) else none
theorem handed_some {K : PySem.W.Frag} {a b : Addr} {o : Obj} {ns : List Int} {u : HO} (h : handed K a o ns b = some u) : b = a ∧ K.lookup a = none ∧ u = .frz o (.lst (ns.map V.int)) := by
  unfold handed at h
  split at h
  · rename_i z
    exact ⟨z.1, z.2, (Option.some.inj h).symm⟩
  · cases h
theorem law_runG {P : Program} {w : World} {K : PySem.W.Frag} {mg mb : Str → Option Value} {fa a : Addr} {sp : Sp} {s₁ : Shared} {vs : List Value} {ns : List Int} (inK : K.In s₁.heap) (gl : s₁.heap.Ns mainGlobals mg) (bl : s₁.heap.Ns builtinsNs mb)
    (blt : ∀ x : Str, x ≠ "__name__" → mb x = bootBuiltins x) (free : s₁.heap.NoLimit) (bare : s₁.gens = #[]) (ha : s₁.heap.get? a = some { cls := .type "list", data := .seq vs.toArray }) (are : IntsAre vs ns) (len : ns.length ≤ sizeLine)
    (F : ∀ base : Heap, K.In base → base.Ns mainGlobals mg → LawG P w K mg base fa sp) (hsp : ∀ H : Hp, Only H → SqL K H a (ns.map V.int) → sp [.ref a] H (fun v _ => v = .bl true) fun _ _ _ => False) :
    codeAny (model P w) callerA (.call (.ref fa) ⟨[.ref a], []⟩) (fun r s' => r = .ok (.ret (.bool true)) ∧ OldK s₁.heap s'.heap ∧ s'.os = s₁.os ∧ AllBare s'.gens) s₁ := by
  generalize ho : ({ cls := .type "list", data := .seq vs.toArray } : Obj) = o at ha
  have rv : Vals (ns.map V.int) vs := vals_ints are
  have isA : ∀ {b : Addr} {u : HO}, handed K a o ns b = some u → b = a ∧ K.lookup a = none ∧ u = .frz o (.lst (ns.map V.int)) := handed_some
  have lies : ∀ {b : Addr} {q : Obj}, s₁.heap.get? b = some q → (b = a → K.lookup a = none → False) → (hidT s₁.heap (handed K a o ns)).get? b = some q := fun {b q} z n => hidT_get z (by
    cases y : handed K a o ns b with
    | none => rfl
    | some u => exact (n (isA y).1 (isA y).2.1).elim)
  have spaces : ∀ {b : Addr} {m : Str → Option Value}, s₁.heap.Ns b m → (hidT s₁.heap (handed K a o ns)).Ns b m := fun {b m} ⟨q, es, ep, z1, z2, z3⟩ => ⟨q, es, ep, lies z1 (fun e _ => by
    subst e
    rw [ha] at z1
    cases z1
    rw [← ho] at z2
    cases z2), z2, z3⟩
  have inK2 : K.In (hidT s₁.heap (handed K a o ns)) := fun b q z => lies (inK b q z) fun e n => by
    subst e
    rw [n] at z
    cases z
  have hok : HOk P w (handed K a o ns) s₁.heap := fun b u z => by
    obtain ⟨e1, _, e2⟩ := isA z
    subst e1 e2
    rw [← ho] at ha ⊢
    exact ⟨ha, by rw [List.length_map]; exact len, vs, _, rv, ha⟩
  have only : Only (handed K a o ns) := fun b => by
    cases y : handed K a o ns b with
    | none => exact .inl rfl
    | some u => exact .inr ⟨_, _, by rw [(isA y).2.2]⟩
  have sq : SqL K (handed K a o ns) a (ns.map V.int) := by
    cases y : K.lookup a with
    | none => exact .inl (.inr ⟨o, by unfold handed; rw [if_pos ⟨rfl, y⟩]⟩)
    | some q =>
      have z := inK a q y
      rw [ha] at z
      obtain rfl := Option.some.inj z
      rw [← ho] at y
      exact .inr ⟨_, vs.toArray, _, y, rfl, rfl, rfl, by rw [List.size_toArray, are.length]; exact len, by simpa using rv⟩
  obtain ⟨ml, l1, l2⟩ := free
  have env : Env0 P w K mg (hidT s₁.heap (handed K a o ns)) callerA [] s₁ (handed K a o ns) := ⟨rfl, ⟨inK2, spaces gl, ⟨mb, spaces bl, blt⟩, ⟨ml, spaces l1, l2⟩⟩, fun b q z => of_hidT z, Nat.le_of_eq (hidT_size _ _), trivial, fun b z => (by cases z), hok, .of_eq bare⟩
  refine codeAny_mono ((F _ inK2 (spaces gl)).run s₁ _ a _ _ env (hsp _ only sq)) fun r s2 z => ?_
  cases r with
  | error e =>
    obtain ⟨_, _, _, _, _, _, _, _, _, _, _, _, never⟩ := z
    exact never.elim
  | ok how =>
    cases how with
    | ret u =>
      obtain ⟨v, H2, os, gens, un, hok2, ru, tr⟩ := z
      have tr : v = .bl true := tr
      subst tr
      obtain rfl : u = Value.bool true := ru
      refine ⟨rfl, OldK.of_keep fun b q there => ?_, os, gens⟩
      cases y : handed K a o ns b with
      | none => exact un.keep b q there y (fun z => by cases z) (fun z => by cases z)
      | some t =>
        obtain ⟨_, _, e⟩ := isA y
        subst e
        obtain ⟨z1, _⟩ := hok b _ y
        obtain ⟨z2, _⟩ := hok2 b _ (un.frzs b o _ y)
        rw [there] at z1
        rw [Option.some.inj z1]
        exact z2
    | next => exact False.elim z
    | brk => exact False.elim z
    | cont => exact False.elim z
theorem LawG.imp {P : Program} {w : World} {K : PySem.W.Frag} {mg : Str → Option Value} {base : Heap} {f : Addr} {sp sp' : Sp} (h : LawG P w K mg base f sp) (e : ∀ vs H Q E, sp' vs H Q E → sp vs H Q E) : LawG P w K mg base f sp' :=
  ⟨fun s H a Q E z y => h.run s H a Q E z (e _ _ _ _ y)⟩
/-- a law whose own body shows things by repr -/
theorem walk_ofG {l : PySem.W.OpenLaw} {n : Nat} {q : Program} {loose : List Str} {XP : (Str → Option Value) → Heap → Prop} {YP : World → Heap → Prop} {d : DefRec} {K : Params → PySem.W.Frag} {sp : World → Sp}
    (most : l.most = some n) (few : n ≤ sizeLine) (plain : d.params.defaults = []) (inK : ∀ (w : World) (h : Heap), YP w h → (K w.params).In h)
    (F : ∀ (w : World) (mg : Str → Option Value) (fa : Addr) (h : Heap), (K w.params).In h → h.Ns mainGlobals mg → mg d.name = some (.ref fa) →
      ∀ base : Heap, (K w.params).In base → base.Ns mainGlobals mg → LawG l.prog w (K w.params) mg base fa (sp w))
    (true_ : ∀ (w : World) (H : Hp) (a : Addr) (ns : List Int), ns.length ≤ n → Only H → SqL (K w.params) H a (ns.map V.int) → sp w [.ref a] H (fun v _ => v = .bl true) fun _ _ _ => False) :
    PySem.W.WalkO q loose XP YP l.row.toRowW d [] (fun f vs => PySem.call f vs) :=
  Att.attach_call most plain fun w _ s₁ mg _ fa _ _ _ _ a _ _ G Y _ _ _ at_ obj are len bare =>
    law_runG (inK w _ Y) G.T.g G.T.b G.T.builtins G.T.nolimit bare obj are (Nat.le_trans len few) (F w mg fa _ (inK w _ Y) G.T.g at_) fun H o z => true_ w H a _ len o z
end Z

namespace Dr
open PySem PySem.Spec PyProof.Rows L2 Z
def stL (cells : List Int) (p x y z : Int) : List D := [.lst (cells.map .int), .int p, .int x, .int y, .int z]
section
variable {cells : List Int} {p x y z i : Int} {s : List D} {k : Nat}
theorem a0 : atI (stL cells p x y z) 0 = some (.lst (cells.map .int)) := rfl
theorem a1 : atI (stL cells p x y z) 1 = some (.int p) := rfl
theorem a2 : atI (stL cells p x y z) 2 = some (.int x) := rfl
theorem a3 : atI (stL cells p x y z) 3 = some (.int y) := rfl
theorem a4 : atI (stL cells p x y z) 4 = some (.int z) := rfl
theorem n1 : ixN (stL cells p x y z).length 1 = some 1 := rfl
theorem n2 : ixN (stL cells p x y z).length 2 = some 2 := rfl
theorem n3 : ixN (stL cells p x y z).length 3 = some 3 := rfl
theorem n4 : ixN (stL cells p x y z).length 4 = some 4 := rfl
theorem s1 : (stL cells p x y z).set 1 (.int i) = stL cells i x y z := rfl
theorem s2 : (stL cells p x y z).set 2 (.int i) = stL cells p i y z := rfl
theorem s3 : (stL cells p x y z).set 3 (.int i) = stL cells p x i z := rfl
theorem s4 : (stL cells p x y z).set 4 (.int i) = stL cells p x y i := rfl
theorem ixM {xs : List D} (h : s[k]? = some (.lst xs)) (i : Int) : ixD s (.mref k) (.int i) = atI xs i := by simp [ixD, h]
theorem ixM2 {xs : List D} (h : k < s.length) (i : Int) : ixD (s.set k (.lst xs)) (.mref k) (.int i) = atI xs i := by simp [ixD, h]
theorem gS {a : D} (h : k < s.length) : (s.set k a)[k]? = some a := by simp [h]
end
def drawB : List Stm := [
  .ife (.cmp .lt (.bv 1) (.c (.int 2))) [
    .ret (.c (.int 0))] [],
  .ife (.an (.cmp .lt (.ix (.bv 0) (.c (.int 2))) (.c (.int 2))) (.cmp .lt (.ix (.bv 0) (.c (.int 1))) (.blt .len [(.ix (.bv 0) (.c (.int 0)))]))) [
    .asg (.nm 2) (.ix (.ix (.bv 0) (.c (.int 0))) (.ix (.bv 0) (.c (.int 1)))),
    .seti 0 (.c (.int 1)) (.bin .add (.ix (.bv 0) (.c (.int 1))) (.c (.int 1))),
    .ife (.cmp .ge (.bv 2) (.bin .pow (.c (.int 10)) (.c (.int 18)))) [
      .seti 0 (.c (.int 2)) (.bin .sub (.bv 2) (.bin .pow (.c (.int 10)) (.c (.int 18))))] [
      .seti 0 (.c (.int 3)) (.bin .mod (.blt .int [(.bin .add (.bin .add (.bin .mul (.ix (.bv 0) (.c (.int 3))) (.c (.int 69621))) (.bin .mod (.blt .int [(.bv 2)]) (.c (.int 2147483647)))) (.c (.int 17)))]) (.c (.int 2147483647)))]] [],
  .ife (.cmp .gt (.ix (.bv 0) (.c (.int 2))) (.c (.int 1))) [
    .asg (.nm 3) (.bin .mod (.blt .int [(.ix (.bv 0) (.c (.int 2)))]) (.bv 1)),
    .seti 0 (.c (.int 2)) (.bin .fdiv (.ix (.bv 0) (.c (.int 2))) (.bv 1)),
    .ret (.v 3)] [],
  .seti 0 (.c (.int 4)) (.bin .add (.ix (.bv 0) (.c (.int 4))) (.c (.int 1))),
  .seti 0 (.c (.int 3)) (.bin .mod (.blt .int [(.bin .add (.bin .add (.bin .mul (.ix (.bv 0) (.c (.int 3))) (.c (.int 48271))) (.bin .mul (.ix (.bv 0) (.c (.int 4))) (.c (.int 9973)))) (.c (.int 11)))]) (.c (.int 2147483647))),
  .ret (.bin .mod (.blt .int [(.bin .fdiv (.ix (.bv 0) (.c (.int 3))) (.c (.int 7)))]) (.bv 1))]
theorem log2_small {i : Int} (h : i.natAbs < 2 ^ 200) : i.natAbs.log2 < 200 := by
  by_cases h0 : i.natAbs = 0
  · rw [h0]; decide
  · exact (Nat.log2_lt h0).mpr h
theorem log2_sum {i j : Int} (h : i.natAbs < 2 ^ 200) (h' : j.natAbs < 2 ^ 200) : i.natAbs.log2 + j.natAbs.log2 < 1000000 := by
  have := log2_small h
  have := log2_small h'
  omega
/-- the last part: no cell is used up -/
theorem tail_ok {F : Fs} {s : List D} {k : Nat} {cells : List Int} {p x y z m : Int} {q r : Sl} (hs : s[k]? = some (.lst (stL cells p x y z))) (hm : 2 ≤ m) (hm2 : m < 10 ^ 60) (hy0 : 0 ≤ y) (hy : y < 2147483647) (hz0 : 0 ≤ z) (hz : z ≤ 1000000) :
    ∃ r0 y', exs F (drawB.drop 3) [.im (.mref k), .im (.int m), q, r] s = .rt (.int r0) (s.set k (.lst (stL cells p x y' (z + 1)))) ∧ 0 ≤ y' ∧ y' < 2147483647 ∧ 0 ≤ r0 ∧ r0 < m := by
  have hk : k < s.length := (List.getElem?_eq_some_iff.mp hs).1
  have e1 := @log2_sum y 48271 (by omega) (by decide)
  have e2 := @log2_sum (z + 1) 9973 (by omega) (by decide)
  have e3 := @log2_small 7 (by decide)
  have e4 : (0 : Int) < 7 ∧ (7 : Int).natAbs.log2 < 9000 := ⟨by decide, by omega⟩
  have e5 : (0 : Int) < m := by omega
  refine ⟨(y * 48271 + (z + 1) * 9973 + 11) % 2147483647 / 7 % m, (y * 48271 + (z + 1) * 9973 + 11) % 2147483647, ?_, Int.emod_nonneg _ (by decide), Int.emod_lt_of_pos _ (by decide), Int.emod_nonneg _ (by omega), Int.emod_lt_of_pos _ e5⟩
  simp only [drawB, List.drop, exs, ex, ev, evs, truth, Out.fl, Out.bind, OutL.bind, Out.bindL, OutL.bindL, fin, Out.get, ixM hs, ixM2 hk, gS hk, hs, List.getElem?_cons_zero, List.getElem?_cons_succ, a0, a1, a2, a3, a4, n1, n2, n3, n4, s1, s2, s3, s4, binD, bltD, Fl.seq, List.set_set, e1, e2, e4, e5, if_true, and_self, show (0:Int) < 2147483647 from by decide]

theorem cell_ok {F : Fs} {s : List D} {k : Nat} {cells : List Int} {p x y z m : Int} {r : Sl} (hs : s[k]? = some (.lst (stL cells p x y z))) (hp : 0 ≤ p) (hy0 : 0 ≤ y) (hy : y < 2147483647) :
    ∃ p' x' y' q', ex F drawB[1] [.im (.mref k), .im (.int m), .un, r] s = .nx [.im (.mref k), .im (.int m), q', r] (s.set k (.lst (stL cells p' x' y' z))) ∧ 0 ≤ p' ∧ 0 ≤ y' ∧ y' < 2147483647 := by
  have hk : k < s.length := (List.getElem?_eq_some_iff.mp hs).1
  have same : s = s.set k (.lst (stL cells p x y z)) := by
    rw [(List.getElem?_eq_some_iff.mp hs).2.symm]; simp
  have e4 : (0 : Int) ≤ 18 ∧ (18 : Int) ≤ 1000000 ∧ (10 : Int).natAbs < 2 ^ 64 := by decide
  have pw : (10 : Int) ^ (18 : Int).toNat = 1000000000000000000 := by decide
  have l0 : ((cells.map D.int).length : Int) = cells.length := by simp
  have e1 := @log2_sum y 69621 (by omega) (by decide)
  by_cases c1 : x < 2
  · by_cases c2 : p < cells.length
    · obtain ⟨j, rfl⟩ : ∃ j : Nat, p = j := ⟨p.toNat, by omega⟩
      have hj : j < cells.length := by omega
      have hc : atI (cells.map D.int) (j : Int) = some (.int cells[j]) := atI_nat (by simp [hj])
      by_cases c3 : 1000000000000000000 ≤ cells[j]
      · refine ⟨j + 1, cells[j] - 1000000000000000000, y, .im (.int cells[j]), ?_, by omega, hy0, hy⟩
        simp only [drawB, List.getElem_cons_zero, List.getElem_cons_succ, exs, ex, ev, evs, truth, Out.fl, Out.bind, OutL.bind, Out.bindL, OutL.bindL, fin, Out.get, ixM hs, ixM2 hk, gS hk, hs, List.getElem?_cons_zero, List.getElem?_cons_succ, a0, a1, a2, a3, a4, n1, n2, n3, n4, s1, s2, s3, s4, binD, bltD, Fl.seq, List.set_set, e1, e4, if_true, and_self, cmpD, Option.map_some, c1, c2, c3, decide_true, decide_false, l0, ixD, hc, bindT, List.length_cons, List.length_nil, List.set_cons_zero, List.set_cons_succ, pw, Nat.reduceAdd, Nat.reduceLT, show (2:Nat) < 4 from by decide, if_true, show (0:Int) < 2147483647 from by decide]
      · refine ⟨j + 1, x, (y * 69621 + cells[j] % 2147483647 + 17) % 2147483647, .im (.int cells[j]), ?_, by omega, Int.emod_nonneg _ (by decide), Int.emod_lt_of_pos _ (by decide)⟩
        simp only [drawB, List.getElem_cons_zero, List.getElem_cons_succ, exs, ex, ev, evs, truth, Out.fl, Out.bind, OutL.bind, Out.bindL, OutL.bindL, fin, Out.get, ixM hs, ixM2 hk, gS hk, hs, List.getElem?_cons_zero, List.getElem?_cons_succ, a0, a1, a2, a3, a4, n1, n2, n3, n4, s1, s2, s3, s4, binD, bltD, Fl.seq, List.set_set, e1, e4, if_true, and_self, cmpD, Option.map_some, c1, c2, c3, decide_true, decide_false, l0, ixD, hc, bindT, List.length_cons, List.length_nil, List.set_cons_zero, List.set_cons_succ, pw, Nat.reduceAdd, Nat.reduceLT, show (2:Nat) < 4 from by decide, if_true, show (0:Int) < 2147483647 from by decide]
    · refine ⟨p, x, y, .un, ?_, hp, hy0, hy⟩
      rw [← same]
      simp only [drawB, List.getElem_cons_zero, List.getElem_cons_succ, exs, ex, ev, evs, truth, Out.fl, Out.bind, OutL.bind, Out.bindL, OutL.bindL, fin, Out.get, ixM hs, hs, List.getElem?_cons_zero, List.getElem?_cons_succ, a0, a1, a2, a3, a4, bltD, Fl.seq, if_true, and_self, cmpD, Option.map_some, c1, c2, decide_true, decide_false, l0]
  · refine ⟨p, x, y, .un, ?_, hp, hy0, hy⟩
    rw [← same]
    simp only [drawB, List.getElem_cons_zero, List.getElem_cons_succ, exs, ex, ev, evs, truth, Out.fl, Out.bind, OutL.bind, Out.bindL, OutL.bindL, fin, Out.get, ixM hs, hs, List.getElem?_cons_zero, List.getElem?_cons_succ, a0, a1, a2, a3, a4, bltD, Fl.seq, if_true, and_self, cmpD, Option.map_some, c1, decide_true, decide_false, l0]

/-- the drawer's state behind at most n draws -/
structure WF (n : Int) (d : D) : Prop where
  ex : ∃ cells p x y z, d = .lst (stL cells p x y z) ∧ 0 ≤ p ∧ 0 ≤ y ∧ y < 2147483647 ∧ 0 ≤ z ∧ z ≤ n
theorem WF.mono {n n' : Int} {d : D} (h : WF n d) (e : n ≤ n') : WF n' d := by
  obtain ⟨cells, p, x, y, z, h1, h2, h3, h4, h5, h6⟩ := h.ex
  exact ⟨cells, p, x, y, z, h1, h2, h3, h4, h5, by omega⟩
theorem WF.new (cells : List Int) : WF 0 (.lst [.lst (cells.map .int), .int 0, .int 0, .int 1, .int 0]) := ⟨cells, 0, 0, 1, 0, rfl, by omega, by omega, by omega, by omega, by omega⟩
theorem seq_rt {F : Fs} {a : Stm} {b : List Stm} {ρ : En} {s : List D} {d : D} {s' : List D} (h : ex F a ρ s = .rt d s') : exs F (a :: b) ρ s = .rt d s' := by
  show (ex F a ρ s).seq _ = _
  rw [h]; rfl
theorem seq_nx {F : Fs} {a : Stm} {b : List Stm} {ρ ρ' : En} {s s' : List D} (h : ex F a ρ s = .nx ρ' s') : exs F (a :: b) ρ s = exs F b ρ' s' := by
  show (ex F a ρ s).seq _ = _
  rw [h]; rfl
/-- a draw: at least 0, less than m (or 0) -/
theorem draw_ok {F : Fs} {s : List D} {k : Nat} {n m : Int} {d : D} (hs : s[k]? = some d) (h : WF n d) (hn : n ≤ 1000000) (hm2 : m < 10 ^ 60) :
    ∃ r d', run F drawB [false, false] 4 [.mref k, .int m] s = .ok (.int r) (s.set k d') ∧ WF (n + 1) d' ∧ 0 ≤ r ∧ (r < m ∨ r = 0) := by
  obtain ⟨cells, p, x, y, z, rfl, hp, hy0, hy, hz0, hz⟩ := h.ex
  have hk : k < s.length := (List.getElem?_eq_some_iff.mp hs).1
  have same : s = s.set k (.lst (stL cells p x y z)) := by
    rw [(List.getElem?_eq_some_iff.mp hs).2.symm]; simp
  have eD : drawB = drawB[0] :: drawB[1] :: drawB[2] :: drawB.drop 3 := rfl
  have e0 : run F drawB [false, false] 4 [.mref k, .int m] s = match exs F drawB [.im (.mref k), .im (.int m), .un, .un] s with
    | .nx _ s => .ok .non s
    | .rt d s => .ok d s
    | .exc c fs _ s => .exc c fs s
    | _ => .bad := rfl
  rw [e0]
  by_cases c0 : m < 2
  · refine ⟨0, _, ?_, (⟨cells, p, x, y, z, rfl, hp, hy0, hy, hz0, by omega⟩ : WF (n + 1) (.lst (stL cells p x y z))), by omega, .inr rfl⟩
    rw [← same]
    have e1 : ex F drawB[0] [.im (.mref k), .im (.int m), .un, .un] s = .rt (.int 0) s := by
      simp only [drawB, List.getElem_cons_zero, List.getElem_cons_succ, exs, ex, ev, evs, truth, Out.fl, Out.bind, fin, Out.get, List.getElem?_cons_zero, List.getElem?_cons_succ, Fl.seq, cmpD, Option.map_some, c0, decide_true]
    rw [eD, seq_rt e1]
  · have e1 : ex F drawB[0] [.im (.mref k), .im (.int m), .un, .un] s = .nx [.im (.mref k), .im (.int m), .un, .un] s := by
      simp only [drawB, List.getElem_cons_zero, List.getElem_cons_succ, exs, ex, ev, evs, truth, Out.fl, Out.bind, fin, Out.get, List.getElem?_cons_zero, List.getElem?_cons_succ, Fl.seq, cmpD, Option.map_some, c0, decide_false]
    obtain ⟨p', x', y', q', e2, hp', hy0', hy'⟩ := cell_ok (F := F) (m := m) (r := .un) hs hp hy0 hy
    rw [eD, seq_nx e1, seq_nx e2]
    have hs' : (s.set k (D.lst (stL cells p' x' y' z)))[k]? = some (.lst (stL cells p' x' y' z)) := gS hk
    have e5 : (0 : Int) < m := by omega
    by_cases c1 : 1 < x'
    · refine ⟨x' % m, .lst (stL cells p' (x' / m) y' z), ?_, ⟨cells, p', x' / m, y', z, rfl, hp', hy0', hy', hz0, by omega⟩, Int.emod_nonneg _ (by omega), .inl (Int.emod_lt_of_pos _ e5)⟩
      have l1 : m.natAbs.log2 < 9000 := by
        have := @log2_small m (by omega)
        omega
      have e6 : 0 < m ∧ m.natAbs.log2 < 9000 := ⟨e5, l1⟩
      have e3 : ex F drawB[2] [.im (.mref k), .im (.int m), q', .un] (s.set k (.lst (stL cells p' x' y' z))) = .rt (.int (x' % m)) (s.set k (.lst (stL cells p' (x' / m) y' z))) := by
        simp only [drawB, List.getElem_cons_zero, List.getElem_cons_succ, exs, ex, ev, evs, truth, Out.fl, Out.bind, OutL.bind, Out.bindL, OutL.bindL, fin, Out.get, ixM2 hk, gS hk, List.getElem?_cons_zero, List.getElem?_cons_succ, a0, a1, a2, a3, a4, n1, n2, n3, n4, s1, s2, s3, s4, binD, bltD, Fl.seq, List.set_set, e5, e6, if_true, and_self, cmpD, Option.map_some, c1, decide_true, bindT, List.length_cons, List.length_nil, List.set_cons_zero, List.set_cons_succ, Nat.reduceAdd, show (3:Nat) < 4 from by decide]
      rw [seq_rt e3]
    · have e3 : ex F drawB[2] [.im (.mref k), .im (.int m), q', .un] (s.set k (.lst (stL cells p' x' y' z))) = .nx [.im (.mref k), .im (.int m), q', .un] (s.set k (.lst (stL cells p' x' y' z))) := by
        simp only [drawB, List.getElem_cons_zero, List.getElem_cons_succ, exs, ex, ev, evs, truth, Out.fl, Out.bind, OutL.bind, Out.bindL, OutL.bindL, fin, Out.get, ixM2 hk, gS hk, List.getElem?_cons_zero, List.getElem?_cons_succ, a0, a1, a2, a3, a4, Fl.seq, cmpD, Option.map_some, c1, decide_false]
      rw [seq_nx e3]
      obtain ⟨r0, y2, e4, h1, h2, h3, h4⟩ := tail_ok (F := F) (q := q') (r := .un) hs' (by omega : 2 ≤ m) hm2 hy0' hy' hz0 (by omega)
      rw [e4, List.set_set]
      exact ⟨r0, _, rfl, ⟨cells, p', x', y2, z + 1, rfl, hp', h1, h2, by omega, by omega⟩, h3, .inl h4⟩
end Dr

namespace Lb
open PySem PySem.Spec PyProof.Rows L2 Z
def b_is_integer : List Stm := [
  .ret (.an (.isi (.bv 0) [.int]) (.nt (.isi (.bv 0) [.bool])))]
def d_is_integer : Df := ⟨["thing"], [], 1, b_is_integer, [false]⟩
def b_is_sequence : List Stm := [
  .ife (.nt (.isi (.bv 0) [.list, .tuple])) [
    .ret (.c (.bl false))] [],
  .ret (.an (.cmp .le (.bv 1) (.blt .len [(.bv 0)])) (.orr (.cmp .isN (.bv 2) (.c .non)) (.cmp .le (.blt .len [(.bv 0)]) (.bv 2))))]
def d_is_sequence : Df := ⟨["thing", "low", "high"], [.int 0, .non], 3, b_is_sequence, [false, false, false]⟩
def b_is_whole : List Stm := [
  .ife (.nt (.call ("is_integer", 1, []) [false] [(.v 0)])) [
    .ret (.c (.bl false))] [],
  .ret (.an (.orr (.cmp .isN (.bv 1) (.c .non)) (.cmp .le (.bv 1) (.bv 0))) (.orr (.cmp .isN (.bv 2) (.c .non)) (.cmp .le (.bv 0) (.bv 2))))]
def d_is_whole : Df := ⟨["thing", "low", "high"], [.non, .non], 3, b_is_whole, [false, false, false]⟩
end Lb

namespace Lb
open PySem PySem.Spec PyProof.Rows L2 Z
def b__law_open : List Stm := [
  .retM (.lst [(.blt .list [(.bv 0)]), (.c (.int 0)), (.c (.int 0)), (.c (.int 1)), (.c (.int 0))])]
def d__law_open : Df := ⟨["_law_script"], [], 1, b__law_open, [false]⟩
def b__law_draw : List Stm := [
  .ife (.cmp .lt (.bv 1) (.c (.int 2))) [
    .ret (.c (.int 0))] [],
  .ife (.an (.cmp .lt (.ix (.bv 0) (.c (.int 2))) (.c (.int 2))) (.cmp .lt (.ix (.bv 0) (.c (.int 1))) (.blt .len [(.ix (.bv 0) (.c (.int 0)))]))) [
    .asg (.nm 2) (.ix (.ix (.bv 0) (.c (.int 0))) (.ix (.bv 0) (.c (.int 1)))),
    .seti 0 (.c (.int 1)) (.bin .add (.ix (.bv 0) (.c (.int 1))) (.c (.int 1))),
    .ife (.cmp .ge (.bv 2) (.bin .pow (.c (.int 10)) (.c (.int 18)))) [
      .seti 0 (.c (.int 2)) (.bin .sub (.bv 2) (.bin .pow (.c (.int 10)) (.c (.int 18))))] [
      .seti 0 (.c (.int 3)) (.bin .mod (.blt .int [(.bin .add (.bin .add (.bin .mul (.ix (.bv 0) (.c (.int 3))) (.c (.int 69621))) (.bin .mod (.blt .int [(.bv 2)]) (.c (.int 2147483647)))) (.c (.int 17)))]) (.c (.int 2147483647)))]] [],
  .ife (.cmp .gt (.ix (.bv 0) (.c (.int 2))) (.c (.int 1))) [
    .asg (.nm 3) (.bin .mod (.blt .int [(.ix (.bv 0) (.c (.int 2)))]) (.bv 1)),
    .seti 0 (.c (.int 2)) (.bin .fdiv (.ix (.bv 0) (.c (.int 2))) (.bv 1)),
    .ret (.v 3)] [],
  .seti 0 (.c (.int 4)) (.bin .add (.ix (.bv 0) (.c (.int 4))) (.c (.int 1))),
  .seti 0 (.c (.int 3)) (.bin .mod (.blt .int [(.bin .add (.bin .add (.bin .mul (.ix (.bv 0) (.c (.int 3))) (.c (.int 48271))) (.bin .mul (.ix (.bv 0) (.c (.int 4))) (.c (.int 9973)))) (.c (.int 11)))]) (.c (.int 2147483647))),
  .ret (.bin .mod (.blt .int [(.bin .fdiv (.ix (.bv 0) (.c (.int 3))) (.c (.int 7)))]) (.bv 1))]
def d__law_draw : Df := ⟨["_law_d", "_law_many"], [], 4, b__law_draw, [false, false]⟩
end Lb

namespace K49
open PySem PySem.Spec PyProof.Rows L2 Z
def topS (i : Nat) : Stmt := PySem.Challenge.pw_headsheard_k49_sayings_checked_in_order.main.body.getD i (.Pass ⟨0, 0, 0, 0⟩)
def blts : List Str := ["all", "bool", "int", "isinstance", "len", "list", "range", "repr", "str", "tuple"]
/-! is_integer -/
abbrev t0 : Stmt := topS 5
abbrev N0 : List Str := ["thing"]
abbrev P0 : List Str := ["thing"]
theorem sc0 : FnScope N0 P0 (defScope t0) := ⟨rfl, rfl, rfl, by decide +kernel, rfl, by decide +kernel, by decide +kernel⟩
def ct0 : CT := { N := ["thing"], calls := [], consts := [], blts := blts, fr := false, gcd := false, rais := [], exn := [], flds := [] }
theorem cb0 : compSs ct0 60 (defScope t0) (defBody t0) = some Lb.d_is_integer.body := by rfl
/-! is_sequence -/
abbrev t1 : Stmt := topS 6
abbrev N1 : List Str := ["thing", "low", "high"]
abbrev P1 : List Str := ["thing", "low", "high"]
theorem sc1 : FnScope N1 P1 (defScope t1) := ⟨rfl, rfl, rfl, by decide +kernel, rfl, by decide +kernel, by decide +kernel⟩
def ct1 : CT := { N := ["thing", "low", "high"], calls := [], consts := [], blts := blts, fr := false, gcd := false, rais := [], exn := [], flds := [] }
theorem cb1 : compSs ct1 60 (defScope t1) (defBody t1) = some Lb.d_is_sequence.body := by rfl
/-! is_couple -/
abbrev t2 : Stmt := topS 7
abbrev N2 : List Str := ["thing"]
abbrev P2 : List Str := ["thing"]
theorem sc2 : FnScope N2 P2 (defScope t2) := ⟨rfl, rfl, rfl, by decide +kernel, rfl, by decide +kernel, by decide +kernel⟩
def ct2 : CT := { N := ["thing"], calls := [], consts := [], blts := blts, fr := false, gcd := false, rais := [], exn := [], flds := [] }
def b_is_couple : List Stm := [
  .ret (.an (.isi (.bv 0) [.list, .tuple]) (.cmp .eq (.blt .len [(.bv 0)]) (.c (.int 2))))]
def d_is_couple : Df := ⟨["thing"], [], 1, b_is_couple, [false]⟩
theorem cb2 : compSs ct2 60 (defScope t2) (defBody t2) = some d_is_couple.body := by rfl
/-! as_tuples -/
abbrev t3 : Stmt := topS 8
abbrev N3 : List Str := ["thing", "entry"]
abbrev P3 : List Str := ["thing"]
theorem sc3 : FnScope N3 P3 (defScope t3) := ⟨rfl, rfl, rfl, by decide +kernel, rfl, by decide +kernel, by decide +kernel⟩
def ct3 : CT := { N := ["thing", "entry"], calls := [⟨"is_sequence", 1, [], [false]⟩, ⟨"as_tuples", 1, [], [false]⟩], consts := [], blts := blts, fr := false, gcd := false, rais := [], exn := [], flds := [] }
def b_as_tuples : List Stm := [
  .ife (.nt (.call ("is_sequence", 1, []) [false] [(.v 0)])) [
    .ret (.v 0)] [],
  .ret (.blt .tuple [(.lc [] [1] (.nm 1) (.seq (.sv 0)) none (.call ("as_tuples", 1, []) [false] [(.v 1)]))])]
def d_as_tuples : Df := ⟨["thing"], [], 2, b_as_tuples, [false]⟩
theorem cb3 : compSs ct3 60 (defScope t3) (defBody t3) = some d_as_tuples.body := by rfl
/-! is_whole -/
abbrev t4 : Stmt := topS 10
abbrev N4 : List Str := ["thing", "low", "high"]
abbrev P4 : List Str := ["thing", "low", "high"]
theorem sc4 : FnScope N4 P4 (defScope t4) := ⟨rfl, rfl, rfl, by decide +kernel, rfl, by decide +kernel, by decide +kernel⟩
def ct4 : CT := { N := ["thing", "low", "high"], calls := [⟨"is_integer", 1, [], [false]⟩], consts := [], blts := blts, fr := false, gcd := false, rais := [], exn := [], flds := [] }
theorem cb4 : compSs ct4 60 (defScope t4) (defBody t4) = some Lb.d_is_whole.body := by rfl
/-! check_saying -/
abbrev t5 : Stmt := topS 21
abbrev N5 : List Str := ["words", "saying"]
abbrev P5 : List Str := ["words", "saying"]
theorem sc5 : FnScope N5 P5 (defScope t5) := ⟨rfl, rfl, rfl, by decide +kernel, rfl, by decide +kernel, by decide +kernel⟩
def ct5 : CT := { N := ["words", "saying"], calls := [⟨"_check_within", 3, [], [false, false, false]⟩, ⟨"as_tuples", 1, [], [false]⟩], consts := [], blts := blts, fr := false, gcd := false, rais := [], exn := [], flds := [] }
def b_check_saying : List Stm := [
  .exp (.call ("_check_within", 3, []) [false, false, false] [(.v 0), (.v 1), (.c (.int 1))]),
  .ret (.call ("as_tuples", 1, []) [false] [(.v 1)])]
def d_check_saying : Df := ⟨["words", "saying"], [], 2, b_check_saying, [false, false]⟩
theorem cb5 : compSs ct5 60 (defScope t5) (defBody t5) = some d_check_saying.body := by rfl
/-! _check_within -/
abbrev t6 : Stmt := topS 22
abbrev N6 : List Str := ["words", "saying", "level", "kind", "inner", "part"]
abbrev P6 : List Str := ["words", "saying", "level"]
theorem sc6 : FnScope N6 P6 (defScope t6) := ⟨rfl, rfl, rfl, by decide +kernel, rfl, by decide +kernel, by decide +kernel⟩
def ct6 : CT := { N := ["words", "saying", "level", "kind", "inner", "part"], calls := [⟨"_check_form", 1, [], [false]⟩, ⟨"_parts_of", 1, [], [false]⟩, ⟨"_check_comparison", 3, [], [false, false, false]⟩, ⟨"_check_within", 3, [], [false, false, false]⟩, ⟨"is_sequence", 3, [], [false, false, false]⟩], consts := [("MOST_LEVEL", .int (4)), ("MOST_PARTS", .int (4)), ("COMPARED", .tup [.str "most", .str "same"]), ("JOINED", .tup [.str "and", .str "or"])], blts := blts, fr := false, gcd := false, rais := [("BadSaying", 35, ["what"])], exn := [], flds := [] }
def b__check_within : List Stm := [
  .exp (.call ("_check_form", 1, []) [false] [(.v 1)]),
  .par 3 4 (.ix (.bv 1) (.c (.int 0))) (.ix (.bv 1) (.c (.int 1))),
  .ife (.cmp .inn (.bv 3) (.c (.tup [(.str "most"), (.str "same")]))) [
    .exp (.call ("_check_comparison", 3, []) [false, false, false] [(.v 0), (.v 4), (.ix (.bv 1) (.c (.int 2)))]),
    .retN] [],
  .ife (.cmp .eq (.bv 2) (.c (.int 4))) [
    .rai 35 ["what"] [(.c (.str "deep"))]] [],
  .ife (.an (.cmp .inn (.bv 3) (.c (.tup [(.str "and"), (.str "or")]))) (.nt (.call ("is_sequence", 3, []) [false, false, false] [(.v 4), (.c (.int 1)), (.c (.int 4))]))) [
    .rai 35 ["what"] [(.c (.str "saying"))]] [],
  .for (.nm 5) (.seq (.call ("_parts_of", 1, []) [false] [(.v 1)])) [
    .exp (.call ("_check_within", 3, []) [false, false, false] [(.v 0), (.v 5), (.bin .add (.bv 2) (.c (.int 1)))])]]
def d__check_within : Df := ⟨["words", "saying", "level"], [], 6, b__check_within, [false, false, false]⟩
theorem cb6 : compSs ct6 60 (defScope t6) (defBody t6) = some d__check_within.body := by rfl
/-! _check_form -/
abbrev t7 : Stmt := topS 23
abbrev N7 : List Str := ["saying"]
abbrev P7 : List Str := ["saying"]
theorem sc7 : FnScope N7 P7 (defScope t7) := ⟨rfl, rfl, rfl, by decide +kernel, rfl, by decide +kernel, by decide +kernel⟩
def ct7 : CT := { N := ["saying"], calls := [⟨"is_sequence", 2, [], [false, false]⟩], consts := [], blts := blts, fr := false, gcd := false, rais := [("BadSaying", 35, ["what"])], exn := [], flds := [], dcts := [("ENTRIES", [("most", some 3), ("same", some 3), ("not", some 2), ("and", some 2), ("or", some 2), ("", none)])] }
def b__check_form : List Stm := [
  .ife (.orr (.nt (.call ("is_sequence", 2, []) [false, false] [(.v 0), (.c (.int 1))])) (.nt (.isi (.ix (.bv 0) (.c (.int 0))) [.str]))) [
    .rai 35 ["what"] [(.c (.str "saying"))]] [],
  .ife (.cmp .ne (.blt (.dget [("most", some 3), ("same", some 3), ("not", some 2), ("and", some 2), ("or", some 2), ("", none)]) [(.ix (.bv 0) (.c (.int 0)))]) (.blt .len [(.bv 0)])) [
    .rai 35 ["what"] [(.c (.str "saying"))]] []]
def d__check_form : Df := ⟨["saying"], [], 1, b__check_form, [false]⟩
theorem cb7 : compSs ct7 60 (defScope t7) (defBody t7) = some d__check_form.body := by rfl
/-! _check_comparison -/
abbrev t8 : Stmt := topS 24
abbrev N8 : List Str := ["words", "terms", "number", "term", "factor", "word"]
abbrev P8 : List Str := ["words", "terms", "number"]
theorem sc8 : FnScope N8 P8 (defScope t8) := ⟨rfl, rfl, rfl, by decide +kernel, rfl, by decide +kernel, by decide +kernel⟩
def ct8 : CT := { N := ["words", "terms", "number", "term", "factor", "word"], calls := [⟨"is_whole", 3, [], [false, false, false]⟩, ⟨"is_sequence", 3, [], [false, false, false]⟩, ⟨"is_couple", 1, [], [false]⟩], consts := [("HEADS", .int (-1)), ("MOST_TERMS", .int (5)), ("MOST_FACTOR", .int (999)), ("MOST_NUMBER", .int (999999))], blts := blts, fr := false, gcd := false, rais := [("BadSaying", 35, ["what"])], exn := [], flds := [] }
def b__check_comparison : List Stm := [
  .ife (.orr (.nt (.call ("is_sequence", 3, []) [false, false, false] [(.v 1), (.c (.int 1)), (.c (.int 5))])) (.nt (.blt .all [(.lc [] [3] (.nm 3) (.seq (.sv 1)) none (.call ("is_couple", 1, []) [false] [(.v 3)]))]))) [
    .rai 35 ["what"] [(.c (.str "terms"))]] [],
  .for (.tp [(.nm 4), (.nm 5)]) (.seq (.sv 1)) [
    .ife (.orr (.nt (.call ("is_whole", 3, []) [false, false, false] [(.v 4), (.neg (.c (.int 999))), (.c (.int 999))])) (.cmp .eq (.bv 4) (.c (.int 0)))) [
      .rai 35 ["what"] [(.c (.str "factor"))]] [],
    .ife (.nt (.call ("is_whole", 3, []) [false, false, false] [(.v 5), (.c (.int (-1))), (.bin .sub (.bv 0) (.c (.int 1)))])) [
      .rai 35 ["what"] [(.c (.str "word"))]] []],
  .ife (.nt (.call ("is_whole", 3, []) [false, false, false] [(.v 2), (.neg (.c (.int 999999))), (.c (.int 999999))])) [
    .rai 35 ["what"] [(.c (.str "number"))]] []]
def d__check_comparison : Df := ⟨["words", "terms", "number"], [], 6, b__check_comparison, [false, false, false]⟩
theorem cb8 : compSs ct8 60 (defScope t8) (defBody t8) = some d__check_comparison.body := by rfl
/-! _parts_of -/
abbrev t9 : Stmt := topS 25
abbrev N9 : List Str := ["saying"]
abbrev P9 : List Str := ["saying"]
theorem sc9 : FnScope N9 P9 (defScope t9) := ⟨rfl, rfl, rfl, by decide +kernel, rfl, by decide +kernel, by decide +kernel⟩
def ct9 : CT := { N := ["saying"], calls := [], consts := [], blts := blts, fr := false, gcd := false, rais := [], exn := [], flds := [] }
def b__parts_of : List Stm := [
  .ret (.ife (.cmp .eq (.ix (.bv 0) (.c (.int 0))) (.c (.str "not"))) (.lst [(.ix (.bv 0) (.c (.int 1)))]) (.blt .list [(.ix (.bv 0) (.c (.int 1)))]))]
def d__parts_of : Df := ⟨["saying"], [], 1, b__parts_of, [false]⟩
theorem cb9 : compSs ct9 60 (defScope t9) (defBody t9) = some d__parts_of.body := by rfl
/-! _law_open -/
abbrev t10 : Stmt := topS 27
abbrev N10 : List Str := ["_law_script"]
abbrev P10 : List Str := ["_law_script"]
theorem sc10 : FnScope N10 P10 (defScope t10) := ⟨rfl, rfl, rfl, by decide +kernel, rfl, by decide +kernel, by decide +kernel⟩
def ct10 : CT := { N := ["_law_script"], calls := [], consts := [], blts := blts, fr := true, gcd := false, rais := [], exn := [], flds := [] }
theorem cb10 : compSs ct10 60 (defScope t10) (defBody t10) = some Lb.d__law_open.body := by rfl
/-! _law_draw -/
abbrev t11 : Stmt := topS 28
abbrev N11 : List Str := ["_law_d", "_law_many", "_law_cell", "_law_found"]
abbrev P11 : List Str := ["_law_d", "_law_many"]
theorem sc11 : FnScope N11 P11 (defScope t11) := ⟨rfl, rfl, rfl, by decide +kernel, rfl, by decide +kernel, by decide +kernel⟩
def ct11 : CT := { N := ["_law_d", "_law_many", "_law_cell", "_law_found"], calls := [], consts := [], blts := blts, fr := false, gcd := false, rais := [], exn := [], flds := [] }
theorem cb11 : compSs ct11 60 (defScope t11) (defBody t11) = some Lb.d__law_draw.body := by rfl
/-! _law_same -/
abbrev t12 : Stmt := topS 29
abbrev N12 : List Str := ["_law_told_here", "_law_due", "_law_k"]
abbrev P12 : List Str := ["_law_told_here", "_law_due"]
theorem sc12 : FnScope N12 P12 (defScope t12) := ⟨rfl, rfl, rfl, by decide +kernel, rfl, by decide +kernel, by decide +kernel⟩
def ct12 : CT := { N := ["_law_told_here", "_law_due", "_law_k"], calls := [⟨"_law_same", 2, [], [false, false]⟩], consts := [], blts := blts, fr := false, gcd := false, rais := [], exn := [], flds := [] }
def b__law_same : List Stm := [
  .ife (.isi (.bv 1) [.tuple]) [
    .ife (.orr (.nt (.isi (.bv 0) [.tuple])) (.cmp .ne (.blt .len [(.bv 0)]) (.blt .len [(.bv 1)]))) [
      .ret (.c (.bl false))] [],
    .ret (.blt .all [(.lc [1, 0] [2] (.nm 2) (.rng1 (.blt .len [(.bv 1)])) none (.call ("_law_same", 2, []) [false, false] [(.ix (.bv 0) (.bv 2)), (.ix (.bv 1) (.bv 2))]))])] [],
  .ife (.cmp .isN (.bv 1) (.c .non)) [
    .ret (.cmp .isN (.bv 0) (.c .non))] [],
  .ife (.isi (.bv 1) [.bool]) [
    .ret (.an (.isi (.bv 0) [.bool]) (.cmp .eq (.bv 0) (.bv 1)))] [],
  .ife (.isi (.bv 1) [.int]) [
    .ret (.an (.isi (.bv 0) [.int]) (.an (.nt (.isi (.bv 0) [.bool])) (.cmp .eq (.bv 0) (.bv 1))))] [],
  .ret (.an (.isi (.bv 0) [.str]) (.cmp .eq (.bv 0) (.bv 1)))]
def d__law_same : Df := ⟨["_law_told_here", "_law_due"], [], 3, b__law_same, [false, false]⟩
theorem cb12 : compSs ct12 60 (defScope t12) (defBody t12) = some d__law_same.body := by rfl
/-! _law_pick -/
abbrev t13 : Stmt := topS 30
abbrev N13 : List Str := ["_law_d", "_law_things"]
abbrev P13 : List Str := ["_law_d", "_law_things"]
theorem sc13 : FnScope N13 P13 (defScope t13) := ⟨rfl, rfl, rfl, by decide +kernel, rfl, by decide +kernel, by decide +kernel⟩
def ct13 : CT := { N := ["_law_d", "_law_things"], calls := [⟨"_law_draw", 2, [], [false, false]⟩], consts := [], blts := blts, fr := false, gcd := false, rais := [], exn := [], flds := [] }
def b__law_pick : List Stm := [
  .ret (.ix (.bv 1) (.call ("_law_draw", 2, []) [false, false] [(.v 0), (.blt .len [(.bv 1)])]))]
def d__law_pick : Df := ⟨["_law_d", "_law_things"], [], 2, b__law_pick, [false, false]⟩
theorem cb13 : compSs ct13 60 (defScope t13) (defBody t13) = some d__law_pick.body := by rfl
/-! _law_listed -/
abbrev t14 : Stmt := topS 31
abbrev N14 : List Str := ["_law_thing", "_law_part"]
abbrev P14 : List Str := ["_law_thing"]
theorem sc14 : FnScope N14 P14 (defScope t14) := ⟨rfl, rfl, rfl, by decide +kernel, rfl, by decide +kernel, by decide +kernel⟩
def ct14 : CT := { N := ["_law_thing", "_law_part"], calls := [⟨"_law_listed", 1, [], [false]⟩], consts := [], blts := blts, fr := false, gcd := false, rais := [], exn := [], flds := [] }
def b__law_listed : List Stm := [
  .ife (.isi (.bv 0) [.tuple]) [
    .ret (.lc [] [1] (.nm 1) (.seq (.sv 0)) none (.call ("_law_listed", 1, []) [false] [(.v 1)]))] [],
  .ret (.v 0)]
def d__law_listed : Df := ⟨["_law_thing"], [], 2, b__law_listed, [false]⟩
theorem cb14 : compSs ct14 60 (defScope t14) (defBody t14) = some d__law_listed.body := by rfl
/-! _law_terms -/
abbrev t15 : Stmt := topS 32
abbrev N15 : List Str := ["_law_d", "_law_words", "_law_wide", "_law_found", "_law_k", "_law_factor"]
abbrev P15 : List Str := ["_law_d", "_law_words", "_law_wide"]
theorem sc15 : FnScope N15 P15 (defScope t15) := ⟨rfl, rfl, rfl, by decide +kernel, rfl, by decide +kernel, by decide +kernel⟩
def ct15 : CT := { N := ["_law_d", "_law_words", "_law_wide", "_law_found", "_law_k", "_law_factor"], calls := [⟨"_law_draw", 2, [], [false, false]⟩], consts := [], blts := blts, fr := false, gcd := false, rais := [], exn := [], flds := [] }
def b__law_terms : List Stm := [
  .own 3 (.lst []),
  .for (.nm 4) (.rng1 (.bin .add (.c (.int 1)) (.call ("_law_draw", 2, []) [false, false] [(.v 0), (.ife (.bv 2) (.c (.int 5)) (.c (.int 3)))]))) [
    .asg (.nm 5) (.ife (.bv 2) (.bin .sub (.call ("_law_draw", 2, []) [false, false] [(.v 0), (.c (.int 1998))]) (.c (.int 999))) (.bin .sub (.call ("_law_draw", 2, []) [false, false] [(.v 0), (.c (.int 6))]) (.c (.int 3)))),
    .ife (.cmp .ge (.bv 5) (.c (.int 0))) [
      .asg (.nm 5) (.bin .add (.bv 5) (.c (.int 1)))] [],
    .app 3 (.tup [(.v 5), (.bin .sub (.call ("_law_draw", 2, []) [false, false] [(.v 0), (.bin .add (.bv 1) (.c (.int 1)))]) (.c (.int 1)))])],
  .ret (.blt .tuple [(.bv 3)])]
def d__law_terms : Df := ⟨["_law_d", "_law_words", "_law_wide"], [], 6, b__law_terms, [false, false, false]⟩
theorem cb15 : compSs ct15 60 (defScope t15) (defBody t15) = some d__law_terms.body := by rfl
/-! _law_comparison -/
abbrev t16 : Stmt := topS 33
abbrev N16 : List Str := ["_law_d", "_law_words", "_law_wide", "_law_terms_here", "_law_number"]
abbrev P16 : List Str := ["_law_d", "_law_words"]
theorem sc16 : FnScope N16 P16 (defScope t16) := ⟨rfl, rfl, rfl, by decide +kernel, rfl, by decide +kernel, by decide +kernel⟩
def ct16 : CT := { N := ["_law_d", "_law_words", "_law_wide", "_law_terms_here", "_law_number"], calls := [⟨"_law_terms", 3, [], [false, false, false]⟩, ⟨"_law_draw", 2, [], [false, false]⟩, ⟨"_law_pick", 2, [], [false, false]⟩], consts := [], blts := blts, fr := false, gcd := false, rais := [], exn := [], flds := [] }
def b__law_comparison : List Stm := [
  .asg (.nm 2) (.cmp .eq (.call ("_law_draw", 2, []) [false, false] [(.v 0), (.c (.int 3))]) (.c (.int 0))),
  .asg (.nm 3) (.call ("_law_terms", 3, []) [false, false, false] [(.v 0), (.v 1), (.v 2)]),
  .asg (.nm 4) (.ife (.bv 2) (.bin .sub (.call ("_law_draw", 2, []) [false, false] [(.v 0), (.c (.int 1999999))]) (.c (.int 999999))) (.bin .sub (.call ("_law_draw", 2, []) [false, false] [(.v 0), (.c (.int 9))]) (.c (.int 4)))),
  .ret (.tup [(.call ("_law_pick", 2, []) [false, false] [(.v 0), (.lst [(.c (.str "most")), (.c (.str "same"))])]), (.v 3), (.v 4)])]
def d__law_comparison : Df := ⟨["_law_d", "_law_words"], [], 5, b__law_comparison, [false, false]⟩
theorem cb16 : compSs ct16 60 (defScope t16) (defBody t16) = some d__law_comparison.body := by rfl
/-! _law_saying -/
abbrev t17 : Stmt := topS 34
abbrev N17 : List Str := ["_law_d", "_law_words", "_law_depth", "_law_kind", "_law_many", "_law_k", "_law_parts"]
abbrev P17 : List Str := ["_law_d", "_law_words", "_law_depth"]
theorem sc17 : FnScope N17 P17 (defScope t17) := ⟨rfl, rfl, rfl, by decide +kernel, rfl, by decide +kernel, by decide +kernel⟩
def ct17 : CT := { N := ["_law_d", "_law_words", "_law_depth", "_law_kind", "_law_many", "_law_k", "_law_parts"], calls := [⟨"_law_draw", 2, [], [false, false]⟩, ⟨"_law_comparison", 2, [], [false, false]⟩, ⟨"_law_saying", 3, [], [false, false, false]⟩], consts := [], blts := blts, fr := false, gcd := false, rais := [], exn := [], flds := [] }
def b__law_saying : List Stm := [
  .asg (.nm 3) (.call ("_law_draw", 2, []) [false, false] [(.v 0), (.c (.int 6))]),
  .ife (.orr (.cmp .lt (.bv 2) (.c (.int 2))) (.cmp .lt (.bv 3) (.c (.int 3)))) [
    .ret (.call ("_law_comparison", 2, []) [false, false] [(.v 0), (.v 1)])] [],
  .ife (.cmp .eq (.bv 3) (.c (.int 3))) [
    .ret (.tup [(.c (.str "not")), (.call ("_law_saying", 3, []) [false, false, false] [(.v 0), (.v 1), (.bin .sub (.bv 2) (.c (.int 1)))])])] [],
  .asg (.nm 4) (.bin .add (.c (.int 1)) (.call ("_law_draw", 2, []) [false, false] [(.v 0), (.c (.int 4))])),
  .asg (.nm 6) (.blt .tuple [(.lc [0, 2, 1] [5] (.nm 5) (.rng1 (.bv 4)) none (.call ("_law_saying", 3, []) [false, false, false] [(.v 0), (.v 1), (.bin .sub (.bv 2) (.c (.int 1)))]))]),
  .ret (.tup [(.ife (.cmp .eq (.bv 3) (.c (.int 4))) (.c (.str "and")) (.c (.str "or"))), (.v 6)])]
def d__law_saying : Df := ⟨["_law_d", "_law_words", "_law_depth"], [], 7, b__law_saying, [false, false, false]⟩
theorem cb17 : compSs ct17 60 (defScope t17) (defBody t17) = some d__law_saying.body := by rfl
/-! _law_is_row -/
abbrev t18 : Stmt := topS 35
abbrev N18 : List Str := ["_law_thing", "_law_least", "_law_most"]
abbrev P18 : List Str := ["_law_thing", "_law_least", "_law_most"]
theorem sc18 : FnScope N18 P18 (defScope t18) := ⟨rfl, rfl, rfl, by decide +kernel, rfl, by decide +kernel, by decide +kernel⟩
def ct18 : CT := { N := ["_law_thing", "_law_least", "_law_most"], calls := [], consts := [], blts := blts, fr := false, gcd := false, rais := [], exn := [], flds := [] }
def b__law_is_row : List Stm := [
  .ret (.an (.isi (.bv 0) [.list, .tuple]) (.an (.cmp .le (.bv 1) (.blt .len [(.bv 0)])) (.cmp .le (.blt .len [(.bv 0)]) (.bv 2))))]
def d__law_is_row : Df := ⟨["_law_thing", "_law_least", "_law_most"], [], 3, b__law_is_row, [false, false, false]⟩
theorem cb18 : compSs ct18 60 (defScope t18) (defBody t18) = some d__law_is_row.body := by rfl
/-! _law_is_number -/
abbrev t19 : Stmt := topS 36
abbrev N19 : List Str := ["_law_thing", "_law_low", "_law_high"]
abbrev P19 : List Str := ["_law_thing", "_law_low", "_law_high"]
theorem sc19 : FnScope N19 P19 (defScope t19) := ⟨rfl, rfl, rfl, by decide +kernel, rfl, by decide +kernel, by decide +kernel⟩
def ct19 : CT := { N := ["_law_thing", "_law_low", "_law_high"], calls := [], consts := [], blts := blts, fr := false, gcd := false, rais := [], exn := [], flds := [] }
def b__law_is_number : List Stm := [
  .ret (.an (.isi (.bv 0) [.int]) (.an (.nt (.isi (.bv 0) [.bool])) (.an (.cmp .le (.bv 1) (.bv 0)) (.cmp .le (.bv 0) (.bv 2)))))]
def d__law_is_number : Df := ⟨["_law_thing", "_law_low", "_law_high"], [], 3, b__law_is_number, [false, false, false]⟩
theorem cb19 : compSs ct19 60 (defScope t19) (defBody t19) = some d__law_is_number.body := by rfl
/-! _law_fault -/
abbrev t20 : Stmt := topS 37
abbrev N20 : List Str := ["_law_words", "_law_saying_here", "_law_level", "_law_part", "_law_found"]
abbrev P20 : List Str := ["_law_words", "_law_saying_here", "_law_level"]
theorem sc20 : FnScope N20 P20 (defScope t20) := ⟨rfl, rfl, rfl, by decide +kernel, rfl, by decide +kernel, by decide +kernel⟩
def ct20 : CT := { N := ["_law_words", "_law_saying_here", "_law_level", "_law_part", "_law_found"], calls := [⟨"_law_comparison_fault", 2, [], [false, false]⟩, ⟨"_law_fault", 3, [], [false, false, false]⟩, ⟨"_law_is_row", 3, [], [false, false, false]⟩], consts := [], blts := blts, fr := false, gcd := false, rais := [], exn := [], flds := [] }
def b__law_fault : List Stm := [
  .ife (.orr (.nt (.call ("_law_is_row", 3, []) [false, false, false] [(.v 1), (.c (.int 2)), (.c (.int 3))])) (.cmp .nin (.ix (.bv 1) (.c (.int 0))) (.lst [(.c (.str "most")), (.c (.str "same")), (.c (.str "not")), (.c (.str "and")), (.c (.str "or"))]))) [
    .ret (.c (.str "saying"))] [],
  .ife (.cmp .ne (.blt .len [(.bv 1)]) (.ife (.cmp .inn (.ix (.bv 1) (.c (.int 0))) (.lst [(.c (.str "most")), (.c (.str "same"))])) (.c (.int 3)) (.c (.int 2)))) [
    .ret (.c (.str "saying"))] [],
  .ife (.cmp .inn (.ix (.bv 1) (.c (.int 0))) (.lst [(.c (.str "most")), (.c (.str "same"))])) [
    .ret (.call ("_law_comparison_fault", 2, []) [false, false] [(.v 0), (.v 1)])] [],
  .ife (.cmp .eq (.bv 2) (.c (.int 4))) [
    .ret (.c (.str "deep"))] [],
  .ife (.cmp .eq (.ix (.bv 1) (.c (.int 0))) (.c (.str "not"))) [
    .ret (.call ("_law_fault", 3, []) [false, false, false] [(.v 0), (.ix (.bv 1) (.c (.int 1))), (.bin .add (.bv 2) (.c (.int 1)))])] [],
  .ife (.nt (.call ("_law_is_row", 3, []) [false, false, false] [(.ix (.bv 1) (.c (.int 1))), (.c (.int 1)), (.c (.int 4))])) [
    .ret (.c (.str "saying"))] [],
  .for (.nm 3) (.seq (.ix (.bv 1) (.c (.int 1)))) [
    .asg (.nm 4) (.call ("_law_fault", 3, []) [false, false, false] [(.v 0), (.v 3), (.bin .add (.bv 2) (.c (.int 1)))]),
    .ife (.cmp .notN (.bv 4) (.c .non)) [
      .ret (.v 4)] []],
  .ret (.c .non)]
def d__law_fault : Df := ⟨["_law_words", "_law_saying_here", "_law_level"], [], 5, b__law_fault, [false, false, false]⟩
theorem cb20 : compSs ct20 60 (defScope t20) (defBody t20) = some d__law_fault.body := by rfl
/-! _law_comparison_fault -/
abbrev t21 : Stmt := topS 38
abbrev N21 : List Str := ["_law_words", "_law_saying_here", "_law_term"]
abbrev P21 : List Str := ["_law_words", "_law_saying_here"]
theorem sc21 : FnScope N21 P21 (defScope t21) := ⟨rfl, rfl, rfl, by decide +kernel, rfl, by decide +kernel, by decide +kernel⟩
def ct21 : CT := { N := ["_law_words", "_law_saying_here", "_law_term"], calls := [⟨"_law_is_row", 3, [], [false, false, false]⟩, ⟨"_law_is_number", 3, [], [false, false, false]⟩], consts := [], blts := blts, fr := false, gcd := false, rais := [], exn := [], flds := [] }
def b__law_comparison_fault : List Stm := [
  .ife (.nt (.call ("_law_is_row", 3, []) [false, false, false] [(.ix (.bv 1) (.c (.int 1))), (.c (.int 1)), (.c (.int 5))])) [
    .ret (.c (.str "terms"))] [],
  .for (.nm 2) (.seq (.ix (.bv 1) (.c (.int 1)))) [
    .ife (.nt (.call ("_law_is_row", 3, []) [false, false, false] [(.v 2), (.c (.int 2)), (.c (.int 2))])) [
      .ret (.c (.str "terms"))] []],
  .for (.nm 2) (.seq (.ix (.bv 1) (.c (.int 1)))) [
    .ife (.orr (.nt (.call ("_law_is_number", 3, []) [false, false, false] [(.ix (.bv 2) (.c (.int 0))), (.neg (.c (.int 999))), (.c (.int 999))])) (.cmp .eq (.ix (.bv 2) (.c (.int 0))) (.c (.int 0)))) [
      .ret (.c (.str "factor"))] [],
    .ife (.nt (.call ("_law_is_number", 3, []) [false, false, false] [(.ix (.bv 2) (.c (.int 1))), (.neg (.c (.int 1))), (.bin .sub (.bv 0) (.c (.int 1)))])) [
      .ret (.c (.str "word"))] []],
  .ret (.ife (.call ("_law_is_number", 3, []) [false, false, false] [(.ix (.bv 1) (.c (.int 2))), (.neg (.c (.int 999999))), (.c (.int 999999))]) (.c .non) (.c (.str "number")))]
def d__law_comparison_fault : Df := ⟨["_law_words", "_law_saying_here"], [], 3, b__law_comparison_fault, [false, false]⟩
theorem cb21 : compSs ct21 60 (defScope t21) (defBody t21) = some d__law_comparison_fault.body := by rfl
/-! _law_odd -/
abbrev t22 : Stmt := topS 39
abbrev N22 : List Str := ["_law_d", "_law_words"]
abbrev P22 : List Str := ["_law_d", "_law_words"]
theorem sc22 : FnScope N22 P22 (defScope t22) := ⟨rfl, rfl, rfl, by decide +kernel, rfl, by decide +kernel, by decide +kernel⟩
def ct22 : CT := { N := ["_law_d", "_law_words"], calls := [⟨"_law_pick", 2, [], [false, false]⟩], consts := [], blts := blts, fr := false, gcd := false, rais := [], exn := [], flds := [] }
def b__law_odd : List Stm := [
  .ret (.call ("_law_pick", 2, []) [false, false] [(.v 0), (.lst [(.c .non), (.c (.bl true)), (.c (.str "")), (.c (.str "most")), (.c (.int 0)), (.neg (.c (.int 2))), (.v 1), (.c (.int 1000)), (.neg (.c (.int 1000))), (.c (.int 1000000)), (.tup []), (.tup [(.c (.int 1))]), (.tup [(.c (.int 1)), (.c (.int 0))]), (.tup [(.c (.int 1)), (.c (.int 0)), (.c (.int 0))]), (.c (.str "and")), (.c (.bl false))])])]
def d__law_odd : Df := ⟨["_law_d", "_law_words"], [], 2, b__law_odd, [false, false]⟩
theorem cb22 : compSs ct22 60 (defScope t22) (defBody t22) = some d__law_odd.body := by rfl
/-! _law_changed -/
abbrev t23 : Stmt := topS 40
abbrev N23 : List Str := ["_law_d", "_law_thing", "_law_words", "_law_depth", "_law_kind", "_law_place"]
abbrev P23 : List Str := ["_law_d", "_law_thing", "_law_words", "_law_depth"]
theorem sc23 : FnScope N23 P23 (defScope t23) := ⟨rfl, rfl, rfl, by decide +kernel, rfl, by decide +kernel, by decide +kernel⟩
def ct23 : CT := { N := ["_law_d", "_law_thing", "_law_words", "_law_depth", "_law_kind", "_law_place"], calls := [⟨"_law_draw", 2, [], [false, false]⟩, ⟨"_law_odd", 2, [], [false, false]⟩, ⟨"_law_pick", 2, [], [false, false]⟩, ⟨"_law_changed", 4, [], [false, false, false, false]⟩], consts := [], blts := blts, fr := false, gcd := false, rais := [], exn := [], flds := [] }
def b__law_changed : List Stm := [
  .ife (.orr (.nt (.isi (.bv 1) [.tuple])) (.orr (.cmp .eq (.bv 1) (.tup [])) (.orr (.cmp .eq (.bv 3) (.c (.int 0))) (.cmp .eq (.call ("_law_draw", 2, []) [false, false] [(.v 0), (.c (.int 7))]) (.c (.int 0)))))) [
    .ret (.call ("_law_odd", 2, []) [false, false] [(.v 0), (.v 2)])] [],
  .asg (.nm 4) (.call ("_law_draw", 2, []) [false, false] [(.v 0), (.c (.int 12))]),
  .ife (.cmp .eq (.bv 4) (.c (.int 0))) [
    .ret (.bin .add (.bv 1) (.tup [(.call ("_law_pick", 2, []) [false, false] [(.v 0), (.blt .list [(.bv 1)])])]))] [],
  .ife (.cmp .eq (.bv 4) (.c (.int 1))) [
    .ret (.sli true false (.bv 1) (.c (.int 1)) (.c .non))] [],
  .ife (.cmp .eq (.bv 4) (.c (.int 2))) [
    .ret (.bin .add (.bv 1) (.bv 1))] [],
  .asg (.nm 5) (.call ("_law_draw", 2, []) [false, false] [(.v 0), (.blt .len [(.bv 1)])]),
  .ret (.bin .add (.bin .add (.sli false true (.bv 1) (.c .non) (.bv 5)) (.tup [(.call ("_law_changed", 4, []) [false, false, false, false] [(.v 0), (.ix (.bv 1) (.bv 5)), (.v 2), (.bin .sub (.bv 3) (.c (.int 1)))])])) (.sli true false (.bv 1) (.bin .add (.bv 5) (.c (.int 1))) (.c .non)))]
def d__law_changed : Df := ⟨["_law_d", "_law_thing", "_law_words", "_law_depth"], [], 6, b__law_changed, [false, false, false, false]⟩
theorem cb23 : compSs ct23 60 (defScope t23) (defBody t23) = some d__law_changed.body := by rfl
/-! _law_told -/
abbrev t24 : Stmt := topS 41
abbrev N24 : List Str := ["_law_words", "_law_saying_here", "raised"]
abbrev P24 : List Str := ["_law_words", "_law_saying_here"]
theorem sc24 : FnScope N24 P24 (defScope t24) := ⟨rfl, rfl, rfl, by decide +kernel, rfl, by decide +kernel, by decide +kernel⟩
def ct24 : CT := { N := ["_law_words", "_law_saying_here", "raised"], calls := [⟨"check_saying", 2, [], [false, false]⟩], consts := [], blts := blts, fr := false, gcd := false, rais := [], exn := [("HeadError", [0, 1, 2, 3, 4, 5, 6, 7, 8, 9, 10, 11, 12, 13, 14, 15, 16, 17, 18, 19, 20, 21, 22, 23, 24, 25, 26, 27, 28, 29, 30, 31, 32, 33, 34, 35, 36, 37, 38, 39, 40]), ("BadText", [5]), ("BadSaying", [35]), ("ValueError", [0, 1, 2, 3, 4, 5, 6, 7, 8, 9, 10, 11, 12, 13, 14, 15, 16, 17, 18, 19, 20, 21, 22, 23, 24, 25, 26, 27, 28, 29, 30, 31, 32, 33, 34, 35, 36, 37, 38, 39, 40])], flds := ["what"] }
def b__law_told : List Stm := [
  .trx [
    .ret (.tup [(.c (.bl true)), (.call ("check_saying", 2, []) [false, false] [(.v 0), (.v 1)])])] [0, 1, 2, 3, 4, 5, 6, 7, 8, 9, 10, 11, 12, 13, 14, 15, 16, 17, 18, 19, 20, 21, 22, 23, 24, 25, 26, 27, 28, 29, 30, 31, 32, 33, 34, 35, 36, 37, 38, 39, 40] (some 2) [
    .ife (.orr (.nt (.isx 2 [35])) (.orr (.isx 2 [5]) (.nt (.isx 2 [0, 1, 2, 3, 4, 5, 6, 7, 8, 9, 10, 11, 12, 13, 14, 15, 16, 17, 18, 19, 20, 21, 22, 23, 24, 25, 26, 27, 28, 29, 30, 31, 32, 33, 34, 35, 36, 37, 38, 39, 40])))) [
      .ret (.tup [(.c (.bl false)), (.c (.str "another error"))])] [],
    .ret (.tup [(.c (.bl false)), (.fx 2 "what")])]]
def d__law_told : Df := ⟨["_law_words", "_law_saying_here"], [], 3, b__law_told, [false, false]⟩
theorem cb24 : compSs ct24 60 (defScope t24) (defBody t24) = some d__law_told.body := by rfl
/-! law -/
abbrev t25 : Stmt := topS 42
abbrev N25 : List Str := ["_law_script", "_law_d", "_law_words", "_law_turn", "_law_saying_here", "_law_kind", "_law_k", "_law_handed", "_law_kept", "_law_due", "_law_told_here"]
abbrev P25 : List Str := ["_law_script"]
theorem sc25 : FnScope N25 P25 (defScope t25) := ⟨rfl, rfl, rfl, by decide +kernel, rfl, by decide +kernel, by decide +kernel⟩
def ct25 : CT := { N := ["_law_script", "_law_d", "_law_words", "_law_turn", "_law_saying_here", "_law_kind", "_law_k", "_law_handed", "_law_kept", "_law_due", "_law_told_here"], calls := [⟨"_law_open", 1, [], [false]⟩, ⟨"_law_draw", 2, [], [false, false]⟩, ⟨"_law_saying", 3, [], [false, false, false]⟩, ⟨"_law_fault", 3, [], [false, false, false]⟩, ⟨"_law_told", 2, [], [false, false]⟩, ⟨"_law_changed", 4, [], [false, false, false, false]⟩, ⟨"_law_listed", 1, [], [false]⟩, ⟨"_law_same", 2, [], [false, false]⟩, ⟨"_law_pick", 2, [], [false, false]⟩], consts := [], blts := blts, fr := false, gcd := false, rais := [], exn := [], flds := [], rep := true }
def b_law : List Stm := [
  .asg (.nm 1) (.call ("_law_open", 1, []) [false] [(.v 0)]),
  .asg (.nm 2) (.bin .add (.c (.int 1)) (.call ("_law_draw", 2, []) [false, false] [(.v 1), (.c (.int 4))])),
  .for (.nm 3) (.rng1 (.c (.int 8))) [
    .asg (.nm 4) (.call ("_law_saying", 3, []) [false, false, false] [(.v 1), (.v 2), (.bin .add (.c (.int 1)) (.call ("_law_draw", 2, []) [false, false] [(.v 1), (.c (.int 4))]))]),
    .asg (.nm 5) (.call ("_law_draw", 2, []) [false, false] [(.v 1), (.c (.int 6))]),
    .ife (.cmp .inn (.bv 5) (.tup [(.c (.int 1)), (.c (.int 2)), (.c (.int 3))])) [
      .asg (.nm 4) (.call ("_law_changed", 4, []) [false, false, false, false] [(.v 1), (.v 4), (.v 2), (.c (.int 9))])] [],
    .ife (.cmp .eq (.bv 5) (.c (.int 3))) [
      .asg (.nm 4) (.call ("_law_changed", 4, []) [false, false, false, false] [(.v 1), (.v 4), (.v 2), (.c (.int 9))])] [],
    .ife (.cmp .eq (.bv 5) (.c (.int 4))) [
      .for (.nm 6) (.rng1 (.bin .add (.c (.int 1)) (.call ("_law_draw", 2, []) [false, false] [(.v 1), (.c (.int 4))]))) [
        .asg (.nm 4) (.call ("_law_pick", 2, []) [false, false] [(.v 1), (.lst [(.tup [(.c (.str "not")), (.v 4)]), (.tup [(.c (.str "and")), (.tup [(.v 4)])]), (.tup [(.c (.str "or")), (.tup [(.tup [(.c (.str "same")), (.tup [(.tup [(.c (.int 1)), (.neg (.c (.int 1)))])]), (.c (.int 2))]), (.v 4)])])])])]] [],
    .asg (.nm 7) (.ife (.cmp .eq (.call ("_law_draw", 2, []) [false, false] [(.v 1), (.c (.int 2))]) (.c (.int 0))) (.call ("_law_listed", 1, []) [false] [(.v 4)]) (.v 4)),
    .asg (.nm 8) (.blt .repr [(.bv 7)]),
    .asg (.nm 9) (.call ("_law_fault", 3, []) [false, false, false] [(.v 2), (.v 4), (.c (.int 1))]),
    .asg (.nm 10) (.call ("_law_told", 2, []) [false, false] [(.v 2), (.v 7)]),
    .ife (.orr (.cmp .ne (.blt .repr [(.bv 7)]) (.bv 8)) (.cmp .ne (.ix (.bv 10) (.c (.int 0))) (.cmp .isN (.bv 9) (.c .non)))) [
      .ret (.c (.bl false))] [],
    .ife (.nt (.call ("_law_same", 2, []) [false, false] [(.ix (.bv 10) (.c (.int 1))), (.ife (.cmp .isN (.bv 9) (.c .non)) (.v 4) (.v 9))])) [
      .ret (.c (.bl false))] []],
  .ret (.c (.bl true))]
def d_law : Df := ⟨["_law_script"], [], 11, b_law, [false]⟩
theorem cb25 : compSs ct25 60 (defScope t25) (defBody t25) = some d_law.body := by rfl
abbrev m0 : Stmt := clsSt (topS 3) 0
theorem ms0 : FnScope ["self", "what"] ["self", "what"] (defScope m0) := ⟨rfl, rfl, rfl, by decide +kernel, rfl, by decide +kernel, by decide +kernel⟩
def prg : Prg := [("is_integer", Lb.d_is_integer), ("is_sequence", Lb.d_is_sequence), ("is_couple", d_is_couple), ("as_tuples", d_as_tuples), ("is_whole", Lb.d_is_whole), ("check_saying", d_check_saying), ("_check_within", d__check_within), ("_check_form", d__check_form), ("_check_comparison", d__check_comparison), ("_parts_of", d__parts_of), ("_law_open", Lb.d__law_open), ("_law_draw", Lb.d__law_draw), ("_law_same", d__law_same), ("_law_pick", d__law_pick), ("_law_listed", d__law_listed), ("_law_terms", d__law_terms), ("_law_comparison", d__law_comparison), ("_law_saying", d__law_saying), ("_law_is_row", d__law_is_row), ("_law_is_number", d__law_is_number), ("_law_fault", d__law_fault), ("_law_comparison_fault", d__law_comparison_fault), ("_law_odd", d__law_odd), ("_law_changed", d__law_changed), ("_law_told", d__law_told), ("law", d_law)]
instance : Has prg "is_integer" Lb.d_is_integer := ⟨by rfl⟩
instance : Has prg "is_sequence" Lb.d_is_sequence := ⟨by rfl⟩
instance : Has prg "is_couple" d_is_couple := ⟨by rfl⟩
instance : Has prg "as_tuples" d_as_tuples := ⟨by rfl⟩
instance : Has prg "is_whole" Lb.d_is_whole := ⟨by rfl⟩
instance : Has prg "check_saying" d_check_saying := ⟨by rfl⟩
instance : Has prg "_check_within" d__check_within := ⟨by rfl⟩
instance : Has prg "_check_form" d__check_form := ⟨by rfl⟩
instance : Has prg "_check_comparison" d__check_comparison := ⟨by rfl⟩
instance : Has prg "_parts_of" d__parts_of := ⟨by rfl⟩
instance : Has prg "_law_open" Lb.d__law_open := ⟨by rfl⟩
instance : Has prg "_law_draw" Lb.d__law_draw := ⟨by rfl⟩
instance : Has prg "_law_same" d__law_same := ⟨by rfl⟩
instance : Has prg "_law_pick" d__law_pick := ⟨by rfl⟩
instance : Has prg "_law_listed" d__law_listed := ⟨by rfl⟩
instance : Has prg "_law_terms" d__law_terms := ⟨by rfl⟩
instance : Has prg "_law_comparison" d__law_comparison := ⟨by rfl⟩
instance : Has prg "_law_saying" d__law_saying := ⟨by rfl⟩
instance : Has prg "_law_is_row" d__law_is_row := ⟨by rfl⟩
instance : Has prg "_law_is_number" d__law_is_number := ⟨by rfl⟩
instance : Has prg "_law_fault" d__law_fault := ⟨by rfl⟩
instance : Has prg "_law_comparison_fault" d__law_comparison_fault := ⟨by rfl⟩
instance : Has prg "_law_odd" d__law_odd := ⟨by rfl⟩
instance : Has prg "_law_changed" d__law_changed := ⟨by rfl⟩
instance : Has prg "_law_told" d__law_told := ⟨by rfl⟩
instance : Has prg "law" d_law := ⟨by rfl⟩
end K49

namespace K49
open PySem PySem.Spec PyProof.Rows L2 Z
theorem all_mk {P : Program} {w : World} {K : PySem.W.Frag} {h : Heap} {mg : Str → Option Value} {fa : Addr} (X : K.In h) (G : h.Ns mainGlobals mg) (hfa : mg "law" = some (.ref fa))
    {c_BadSaying : Addr}
    {c_HeadError : Addr}
    {c_BadText : Addr}
    (a_BadSaying : PySem.W.nsIn K mainGlobals "BadSaying" = some (some (.ref c_BadSaying)))
    (e_BadSaying : PySem.W.subIn K (.ref c_BadSaying) (.type "BaseException") = some true)
    (t_BadSaying : PySem.W.typeIn K (.ref c_BadSaying) = some (.type "type"))
    (i_BadSaying : PySem.W.isClsIn K c_BadSaying = true)
    (a_HeadError : PySem.W.nsIn K mainGlobals "HeadError" = some (some (.ref c_HeadError)))
    (e_HeadError : PySem.W.subIn K (.ref c_HeadError) (.type "BaseException") = some true)
    (t_HeadError : PySem.W.typeIn K (.ref c_HeadError) = some (.type "type"))
    (i_HeadError : PySem.W.isClsIn K c_HeadError = true)
    (a_BadText : PySem.W.nsIn K mainGlobals "BadText" = some (some (.ref c_BadText)))
    (e_BadText : PySem.W.subIn K (.ref c_BadText) (.type "BaseException") = some true)
    (t_BadText : PySem.W.typeIn K (.ref c_BadText) = some (.type "type"))
    (i_BadText : PySem.W.isClsIn K c_BadText = true)
    (u_n : PySem.W.specialIn K (.builtin "object.__class__") "__get__" = some (some (.builtin "getset_descriptor.__get__")))
    (u_t : PySem.W.takesIn K (.builtin "object.__class__") = some true)
    {nmBadSaying qqBadSaying : Str} {NNBadSaying : Addr} {bsBadSaying bmBadSaying : List Value} {snBadSaying : List Str} {subBadSaying : List Value} {abBadSaying : Bool} {colBadSaying : Option Bool} {ddBadSaying : Option Addr} {m0BadSaying m1BadSaying m2BadSaying m3BadSaying m5BadSaying : Option Value}
    (x_BadSaying : K.lookup c_BadSaying = some (excClassObj nmBadSaying qqBadSaying c_BadSaying NNBadSaying bsBadSaying bmBadSaying true snBadSaying subBadSaying abBadSaying colBadSaying ddBadSaying m0BadSaying m1BadSaying m2BadSaying m3BadSaying m5BadSaying "ValueError.__new__"))
    (v_BadSaying : PySem.HandSPX.refsVE bmBadSaying = true)
    (s_BadSaying : PySem.W.findIn K (.ref c_BadSaying) "__setattr__" = some (some (.builtin "object.__setattr__")))
    (g_BadSaying : PySem.W.findIn K (.ref c_BadSaying) "__getattribute__" = some (some (.builtin "BaseException.__getattribute__")))
    (gg_BadSaying : PySem.W.findIn K (.ref c_BadSaying) "__getattr__" = some none)
    (h_BadSaying : PySem.W.hasDictIn K c_BadSaying = true)
    (k_BadSaying : PySem.W.keepIn K (.ref c_BadSaying) = true)
    (w_BadSaying : PySem.W.findIn K (.ref c_BadSaying) "__class__" = some (some (.builtin "object.__class__")))
    (o_BadSaying : PySem.W.mroIn K c_BadSaying (.type "object") = some true)
    (n_BadSaying_what : PySem.W.findIn K (.ref c_BadSaying) "what" = some none)
    (r_BadSaying_HeadError : PySem.W.subIn K (.ref c_BadSaying) (.ref c_HeadError) = some true)
    (r_BadSaying_BadText : PySem.W.subIn K (.ref c_BadSaying) (.ref c_BadText) = some false)
    (r_BadSaying_BadSaying : PySem.W.subIn K (.ref c_BadSaying) (.ref c_BadSaying) = some true)
    (r_BadSaying_ValueError : PySem.W.subIn K (.ref c_BadSaying) (.type "ValueError") = some true)
    {fi_BadSaying : Addr} {oiBadSaying diBadSaying piBadSaying ciBadSaying tiBadSaying : Value} {uiBadSaying aiBadSaying : Option Addr} {siBadSaying : Array (Option Value)}
    (j_BadSaying : PySem.W.findIn K (.ref c_BadSaying) "__init__" = some (some (.ref fi_BadSaying)))
    (jt_BadSaying : PySem.W.typeIn K (.ref fi_BadSaying) = some (.type "function"))
    (jl_BadSaying : K.lookup fi_BadSaying = some ⟨oiBadSaying, uiBadSaying, .func (PySem.W.fnOf "__init__" "BadSaying.__init__" (defArgs m0) (defBody m0) (defScope m0) .none .none diBadSaying piBadSaying aiBadSaying ciBadSaying tiBadSaying), siBadSaying⟩)
    (jc_BadSaying : PySem.W.codeIn K ciBadSaying "BadSaying.__init__" = true)
    (jk_BadSaying : PySem.W.keepIn K (.ref fi_BadSaying) = true)
    (b_ValueError : PySem.W.nsIn K mainGlobals "ValueError" = some none)
    (be_ValueError : PySem.W.subIn K (.type "ValueError") (.type "BaseException") = some true)
    (r_HeadError_HeadError : PySem.W.subIn K (.ref c_HeadError) (.ref c_HeadError) = some true)
    (r_BadText_BadText : PySem.W.subIn K (.ref c_BadText) (.ref c_BadText) = some true)
    {tkHEADS : Tok}
    (q_HEADS : PySem.W.nsIn K mainGlobals "HEADS" = some (some (.int (-1) tkHEADS)))
    {tkMOST_LEVEL : Tok}
    (q_MOST_LEVEL : PySem.W.nsIn K mainGlobals "MOST_LEVEL" = some (some (.int (4) tkMOST_LEVEL)))
    {tkMOST_TERMS : Tok}
    (q_MOST_TERMS : PySem.W.nsIn K mainGlobals "MOST_TERMS" = some (some (.int (5) tkMOST_TERMS)))
    {tkMOST_PARTS : Tok}
    (q_MOST_PARTS : PySem.W.nsIn K mainGlobals "MOST_PARTS" = some (some (.int (4) tkMOST_PARTS)))
    {tkMOST_FACTOR : Tok}
    (q_MOST_FACTOR : PySem.W.nsIn K mainGlobals "MOST_FACTOR" = some (some (.int (999) tkMOST_FACTOR)))
    {tkMOST_NUMBER : Tok}
    (q_MOST_NUMBER : PySem.W.nsIn K mainGlobals "MOST_NUMBER" = some (some (.int (999999) tkMOST_NUMBER)))
    {acCOMPARED : Addr} {ocCOMPARED : Option Addr} {ncCOMPARED : Nat} {scCOMPARED : Array (Option Value)} {tkCOMPARED0 tkCOMPARED1 : Tok}
    (q_COMPARED : PySem.W.nsIn K mainGlobals "COMPARED" = some (some (.ref acCOMPARED)))
    (ql_COMPARED : K.lookup acCOMPARED = some ⟨.type "tuple", ocCOMPARED, .seq #[.str "most" tkCOMPARED0, .str "same" tkCOMPARED1] ncCOMPARED, scCOMPARED⟩)
    {acJOINED : Addr} {ocJOINED : Option Addr} {ncJOINED : Nat} {scJOINED : Array (Option Value)} {tkJOINED0 tkJOINED1 : Tok}
    (q_JOINED : PySem.W.nsIn K mainGlobals "JOINED" = some (some (.ref acJOINED)))
    (ql_JOINED : K.lookup acJOINED = some ⟨.type "tuple", ocJOINED, .seq #[.str "and" tkJOINED0, .str "or" tkJOINED1] ncJOINED, scJOINED⟩)
    {acENTRIES : Addr} {esENTRIES : Array DictEntry} {ncENTRIES : Nat} {tkENTRIES0 tkENTRIES1 tkENTRIES2 tkENTRIES3 tkENTRIES4 : Tok}
    (q_ENTRIES : PySem.W.nsIn K mainGlobals "ENTRIES" = some (some (.ref acENTRIES)))
    (ql_ENTRIES : K.lookup acENTRIES = some ⟨.type "dict", none, .dict esENTRIES ncENTRIES, #[]⟩)
    (qk_ENTRIES : PySem.W.KeysLit w.params esENTRIES.toList)
    (qs_ENTRIES : (acENTRIES == sysModules) = false)
    (qe_ENTRIES0 : PySem.W.nsIn K acENTRIES "most" = some (some (.int 3 tkENTRIES0)))
    (qe_ENTRIES1 : PySem.W.nsIn K acENTRIES "same" = some (some (.int 3 tkENTRIES1)))
    (qe_ENTRIES2 : PySem.W.nsIn K acENTRIES "not" = some (some (.int 2 tkENTRIES2)))
    (qe_ENTRIES3 : PySem.W.nsIn K acENTRIES "and" = some (some (.int 2 tkENTRIES3)))
    (qe_ENTRIES4 : PySem.W.nsIn K acENTRIES "or" = some (some (.int 2 tkENTRIES4)))
    (qe_ENTRIES5 : PySem.W.nsIn K acENTRIES "" = some none)
    {fa0 : Addr} {oc0 kV0 dc0 pm0 cd0 ct_0 : Value} {od0 an0 : Option Addr} {sl0 : Array (Option Value)}
    (a0 : PySem.W.nsIn K mainGlobals "is_integer" = some (some (.ref fa0)))
    (l0 : K.lookup fa0 = some ⟨oc0, od0, .func (PySem.W.fnOf "is_integer" "is_integer" (defArgs t0) (defBody t0) (defScope t0) .none kV0 dc0 pm0 an0 cd0 ct_0), sl0⟩)
    (c0 : PySem.W.codeIn K cd0 "is_integer" = true)
    (k0 : PySem.W.keepIn K (.ref fa0) = true)
    {fa1 : Addr} {oc1 kV1 dc1 pm1 cd1 ct_1 : Value} {od1 an1 : Option Addr} {sl1 : Array (Option Value)}
    {dT1 : Addr} {oc1d : Value} {od1d : Option Addr} {nn1 : Nat} {sl1d : Array (Option Value)} {td1_0 : Tok}
    (a1 : PySem.W.nsIn K mainGlobals "is_sequence" = some (some (.ref fa1)))
    (l1 : K.lookup fa1 = some ⟨oc1, od1, .func (PySem.W.fnOf "is_sequence" "is_sequence" (defArgs t1) (defBody t1) (defScope t1) (.ref dT1) kV1 dc1 pm1 an1 cd1 ct_1), sl1⟩)
    (c1 : PySem.W.codeIn K cd1 "is_sequence" = true)
    (k1 : PySem.W.keepIn K (.ref fa1) = true)
    (d1 : K.lookup dT1 = some ⟨oc1d, od1d, .seq #[.int 0 td1_0, .none] nn1, sl1d⟩)
    {fa2 : Addr} {oc2 kV2 dc2 pm2 cd2 ct_2 : Value} {od2 an2 : Option Addr} {sl2 : Array (Option Value)}
    (a2 : PySem.W.nsIn K mainGlobals "is_couple" = some (some (.ref fa2)))
    (l2 : K.lookup fa2 = some ⟨oc2, od2, .func (PySem.W.fnOf "is_couple" "is_couple" (defArgs t2) (defBody t2) (defScope t2) .none kV2 dc2 pm2 an2 cd2 ct_2), sl2⟩)
    (c2 : PySem.W.codeIn K cd2 "is_couple" = true)
    (k2 : PySem.W.keepIn K (.ref fa2) = true)
    {fa3 : Addr} {oc3 kV3 dc3 pm3 cd3 ct_3 : Value} {od3 an3 : Option Addr} {sl3 : Array (Option Value)}
    (a3 : PySem.W.nsIn K mainGlobals "as_tuples" = some (some (.ref fa3)))
    (l3 : K.lookup fa3 = some ⟨oc3, od3, .func (PySem.W.fnOf "as_tuples" "as_tuples" (defArgs t3) (defBody t3) (defScope t3) .none kV3 dc3 pm3 an3 cd3 ct_3), sl3⟩)
    (c3 : PySem.W.codeIn K cd3 "as_tuples" = true)
    (k3 : PySem.W.keepIn K (.ref fa3) = true)
    {fa4 : Addr} {oc4 kV4 dc4 pm4 cd4 ct_4 : Value} {od4 an4 : Option Addr} {sl4 : Array (Option Value)}
    {dT4 : Addr} {oc4d : Value} {od4d : Option Addr} {nn4 : Nat} {sl4d : Array (Option Value)}
    (a4 : PySem.W.nsIn K mainGlobals "is_whole" = some (some (.ref fa4)))
    (l4 : K.lookup fa4 = some ⟨oc4, od4, .func (PySem.W.fnOf "is_whole" "is_whole" (defArgs t4) (defBody t4) (defScope t4) (.ref dT4) kV4 dc4 pm4 an4 cd4 ct_4), sl4⟩)
    (c4 : PySem.W.codeIn K cd4 "is_whole" = true)
    (k4 : PySem.W.keepIn K (.ref fa4) = true)
    (d4 : K.lookup dT4 = some ⟨oc4d, od4d, .seq #[.none, .none] nn4, sl4d⟩)
    {fa5 : Addr} {oc5 kV5 dc5 pm5 cd5 ct_5 : Value} {od5 an5 : Option Addr} {sl5 : Array (Option Value)}
    (a5 : PySem.W.nsIn K mainGlobals "check_saying" = some (some (.ref fa5)))
    (l5 : K.lookup fa5 = some ⟨oc5, od5, .func (PySem.W.fnOf "check_saying" "check_saying" (defArgs t5) (defBody t5) (defScope t5) .none kV5 dc5 pm5 an5 cd5 ct_5), sl5⟩)
    (c5 : PySem.W.codeIn K cd5 "check_saying" = true)
    (k5 : PySem.W.keepIn K (.ref fa5) = true)
    {fa6 : Addr} {oc6 kV6 dc6 pm6 cd6 ct_6 : Value} {od6 an6 : Option Addr} {sl6 : Array (Option Value)}
    (a6 : PySem.W.nsIn K mainGlobals "_check_within" = some (some (.ref fa6)))
    (l6 : K.lookup fa6 = some ⟨oc6, od6, .func (PySem.W.fnOf "_check_within" "_check_within" (defArgs t6) (defBody t6) (defScope t6) .none kV6 dc6 pm6 an6 cd6 ct_6), sl6⟩)
    (c6 : PySem.W.codeIn K cd6 "_check_within" = true)
    (k6 : PySem.W.keepIn K (.ref fa6) = true)
    {fa7 : Addr} {oc7 kV7 dc7 pm7 cd7 ct_7 : Value} {od7 an7 : Option Addr} {sl7 : Array (Option Value)}
    (a7 : PySem.W.nsIn K mainGlobals "_check_form" = some (some (.ref fa7)))
    (l7 : K.lookup fa7 = some ⟨oc7, od7, .func (PySem.W.fnOf "_check_form" "_check_form" (defArgs t7) (defBody t7) (defScope t7) .none kV7 dc7 pm7 an7 cd7 ct_7), sl7⟩)
    (c7 : PySem.W.codeIn K cd7 "_check_form" = true)
    (k7 : PySem.W.keepIn K (.ref fa7) = true)
    {fa8 : Addr} {oc8 kV8 dc8 pm8 cd8 ct_8 : Value} {od8 an8 : Option Addr} {sl8 : Array (Option Value)}
    (a8 : PySem.W.nsIn K mainGlobals "_check_comparison" = some (some (.ref fa8)))
    (l8 : K.lookup fa8 = some ⟨oc8, od8, .func (PySem.W.fnOf "_check_comparison" "_check_comparison" (defArgs t8) (defBody t8) (defScope t8) .none kV8 dc8 pm8 an8 cd8 ct_8), sl8⟩)
    (c8 : PySem.W.codeIn K cd8 "_check_comparison" = true)
    (k8 : PySem.W.keepIn K (.ref fa8) = true)
    {fa9 : Addr} {oc9 kV9 dc9 pm9 cd9 ct_9 : Value} {od9 an9 : Option Addr} {sl9 : Array (Option Value)}
    (a9 : PySem.W.nsIn K mainGlobals "_parts_of" = some (some (.ref fa9)))
    (l9 : K.lookup fa9 = some ⟨oc9, od9, .func (PySem.W.fnOf "_parts_of" "_parts_of" (defArgs t9) (defBody t9) (defScope t9) .none kV9 dc9 pm9 an9 cd9 ct_9), sl9⟩)
    (c9 : PySem.W.codeIn K cd9 "_parts_of" = true)
    (k9 : PySem.W.keepIn K (.ref fa9) = true)
    {fa10 : Addr} {oc10 kV10 dc10 pm10 cd10 ct_10 : Value} {od10 an10 : Option Addr} {sl10 : Array (Option Value)}
    (a10 : PySem.W.nsIn K mainGlobals "_law_open" = some (some (.ref fa10)))
    (l10 : K.lookup fa10 = some ⟨oc10, od10, .func (PySem.W.fnOf "_law_open" "_law_open" (defArgs t10) (defBody t10) (defScope t10) .none kV10 dc10 pm10 an10 cd10 ct_10), sl10⟩)
    (c10 : PySem.W.codeIn K cd10 "_law_open" = true)
    (k10 : PySem.W.keepIn K (.ref fa10) = true)
    {fa11 : Addr} {oc11 kV11 dc11 pm11 cd11 ct_11 : Value} {od11 an11 : Option Addr} {sl11 : Array (Option Value)}
    (a11 : PySem.W.nsIn K mainGlobals "_law_draw" = some (some (.ref fa11)))
    (l11 : K.lookup fa11 = some ⟨oc11, od11, .func (PySem.W.fnOf "_law_draw" "_law_draw" (defArgs t11) (defBody t11) (defScope t11) .none kV11 dc11 pm11 an11 cd11 ct_11), sl11⟩)
    (c11 : PySem.W.codeIn K cd11 "_law_draw" = true)
    (k11 : PySem.W.keepIn K (.ref fa11) = true)
    {fa12 : Addr} {oc12 kV12 dc12 pm12 cd12 ct_12 : Value} {od12 an12 : Option Addr} {sl12 : Array (Option Value)}
    (a12 : PySem.W.nsIn K mainGlobals "_law_same" = some (some (.ref fa12)))
    (l12 : K.lookup fa12 = some ⟨oc12, od12, .func (PySem.W.fnOf "_law_same" "_law_same" (defArgs t12) (defBody t12) (defScope t12) .none kV12 dc12 pm12 an12 cd12 ct_12), sl12⟩)
    (c12 : PySem.W.codeIn K cd12 "_law_same" = true)
    (k12 : PySem.W.keepIn K (.ref fa12) = true)
    {fa13 : Addr} {oc13 kV13 dc13 pm13 cd13 ct_13 : Value} {od13 an13 : Option Addr} {sl13 : Array (Option Value)}
    (a13 : PySem.W.nsIn K mainGlobals "_law_pick" = some (some (.ref fa13)))
    (l13 : K.lookup fa13 = some ⟨oc13, od13, .func (PySem.W.fnOf "_law_pick" "_law_pick" (defArgs t13) (defBody t13) (defScope t13) .none kV13 dc13 pm13 an13 cd13 ct_13), sl13⟩)
    (c13 : PySem.W.codeIn K cd13 "_law_pick" = true)
    (k13 : PySem.W.keepIn K (.ref fa13) = true)
    {fa14 : Addr} {oc14 kV14 dc14 pm14 cd14 ct_14 : Value} {od14 an14 : Option Addr} {sl14 : Array (Option Value)}
    (a14 : PySem.W.nsIn K mainGlobals "_law_listed" = some (some (.ref fa14)))
    (l14 : K.lookup fa14 = some ⟨oc14, od14, .func (PySem.W.fnOf "_law_listed" "_law_listed" (defArgs t14) (defBody t14) (defScope t14) .none kV14 dc14 pm14 an14 cd14 ct_14), sl14⟩)
    (c14 : PySem.W.codeIn K cd14 "_law_listed" = true)
    (k14 : PySem.W.keepIn K (.ref fa14) = true)
    {fa15 : Addr} {oc15 kV15 dc15 pm15 cd15 ct_15 : Value} {od15 an15 : Option Addr} {sl15 : Array (Option Value)}
    (a15 : PySem.W.nsIn K mainGlobals "_law_terms" = some (some (.ref fa15)))
    (l15 : K.lookup fa15 = some ⟨oc15, od15, .func (PySem.W.fnOf "_law_terms" "_law_terms" (defArgs t15) (defBody t15) (defScope t15) .none kV15 dc15 pm15 an15 cd15 ct_15), sl15⟩)
    (c15 : PySem.W.codeIn K cd15 "_law_terms" = true)
    (k15 : PySem.W.keepIn K (.ref fa15) = true)
    {fa16 : Addr} {oc16 kV16 dc16 pm16 cd16 ct_16 : Value} {od16 an16 : Option Addr} {sl16 : Array (Option Value)}
    (a16 : PySem.W.nsIn K mainGlobals "_law_comparison" = some (some (.ref fa16)))
    (l16 : K.lookup fa16 = some ⟨oc16, od16, .func (PySem.W.fnOf "_law_comparison" "_law_comparison" (defArgs t16) (defBody t16) (defScope t16) .none kV16 dc16 pm16 an16 cd16 ct_16), sl16⟩)
    (c16 : PySem.W.codeIn K cd16 "_law_comparison" = true)
    (k16 : PySem.W.keepIn K (.ref fa16) = true)
    {fa17 : Addr} {oc17 kV17 dc17 pm17 cd17 ct_17 : Value} {od17 an17 : Option Addr} {sl17 : Array (Option Value)}
    (a17 : PySem.W.nsIn K mainGlobals "_law_saying" = some (some (.ref fa17)))
    (l17 : K.lookup fa17 = some ⟨oc17, od17, .func (PySem.W.fnOf "_law_saying" "_law_saying" (defArgs t17) (defBody t17) (defScope t17) .none kV17 dc17 pm17 an17 cd17 ct_17), sl17⟩)
    (c17 : PySem.W.codeIn K cd17 "_law_saying" = true)
    (k17 : PySem.W.keepIn K (.ref fa17) = true)
    {fa18 : Addr} {oc18 kV18 dc18 pm18 cd18 ct_18 : Value} {od18 an18 : Option Addr} {sl18 : Array (Option Value)}
    (a18 : PySem.W.nsIn K mainGlobals "_law_is_row" = some (some (.ref fa18)))
    (l18 : K.lookup fa18 = some ⟨oc18, od18, .func (PySem.W.fnOf "_law_is_row" "_law_is_row" (defArgs t18) (defBody t18) (defScope t18) .none kV18 dc18 pm18 an18 cd18 ct_18), sl18⟩)
    (c18 : PySem.W.codeIn K cd18 "_law_is_row" = true)
    (k18 : PySem.W.keepIn K (.ref fa18) = true)
    {fa19 : Addr} {oc19 kV19 dc19 pm19 cd19 ct_19 : Value} {od19 an19 : Option Addr} {sl19 : Array (Option Value)}
    (a19 : PySem.W.nsIn K mainGlobals "_law_is_number" = some (some (.ref fa19)))
    (l19 : K.lookup fa19 = some ⟨oc19, od19, .func (PySem.W.fnOf "_law_is_number" "_law_is_number" (defArgs t19) (defBody t19) (defScope t19) .none kV19 dc19 pm19 an19 cd19 ct_19), sl19⟩)
    (c19 : PySem.W.codeIn K cd19 "_law_is_number" = true)
    (k19 : PySem.W.keepIn K (.ref fa19) = true)
    {fa20 : Addr} {oc20 kV20 dc20 pm20 cd20 ct_20 : Value} {od20 an20 : Option Addr} {sl20 : Array (Option Value)}
    (a20 : PySem.W.nsIn K mainGlobals "_law_fault" = some (some (.ref fa20)))
    (l20 : K.lookup fa20 = some ⟨oc20, od20, .func (PySem.W.fnOf "_law_fault" "_law_fault" (defArgs t20) (defBody t20) (defScope t20) .none kV20 dc20 pm20 an20 cd20 ct_20), sl20⟩)
    (c20 : PySem.W.codeIn K cd20 "_law_fault" = true)
    (k20 : PySem.W.keepIn K (.ref fa20) = true)
    {fa21 : Addr} {oc21 kV21 dc21 pm21 cd21 ct_21 : Value} {od21 an21 : Option Addr} {sl21 : Array (Option Value)}
    (a21 : PySem.W.nsIn K mainGlobals "_law_comparison_fault" = some (some (.ref fa21)))
    (l21 : K.lookup fa21 = some ⟨oc21, od21, .func (PySem.W.fnOf "_law_comparison_fault" "_law_comparison_fault" (defArgs t21) (defBody t21) (defScope t21) .none kV21 dc21 pm21 an21 cd21 ct_21), sl21⟩)
    (c21 : PySem.W.codeIn K cd21 "_law_comparison_fault" = true)
    (k21 : PySem.W.keepIn K (.ref fa21) = true)
    {fa22 : Addr} {oc22 kV22 dc22 pm22 cd22 ct_22 : Value} {od22 an22 : Option Addr} {sl22 : Array (Option Value)}
    (a22 : PySem.W.nsIn K mainGlobals "_law_odd" = some (some (.ref fa22)))
    (l22 : K.lookup fa22 = some ⟨oc22, od22, .func (PySem.W.fnOf "_law_odd" "_law_odd" (defArgs t22) (defBody t22) (defScope t22) .none kV22 dc22 pm22 an22 cd22 ct_22), sl22⟩)
    (c22 : PySem.W.codeIn K cd22 "_law_odd" = true)
    (k22 : PySem.W.keepIn K (.ref fa22) = true)
    {fa23 : Addr} {oc23 kV23 dc23 pm23 cd23 ct_23 : Value} {od23 an23 : Option Addr} {sl23 : Array (Option Value)}
    (a23 : PySem.W.nsIn K mainGlobals "_law_changed" = some (some (.ref fa23)))
    (l23 : K.lookup fa23 = some ⟨oc23, od23, .func (PySem.W.fnOf "_law_changed" "_law_changed" (defArgs t23) (defBody t23) (defScope t23) .none kV23 dc23 pm23 an23 cd23 ct_23), sl23⟩)
    (c23 : PySem.W.codeIn K cd23 "_law_changed" = true)
    (k23 : PySem.W.keepIn K (.ref fa23) = true)
    {fa24 : Addr} {oc24 kV24 dc24 pm24 cd24 ct_24 : Value} {od24 an24 : Option Addr} {sl24 : Array (Option Value)}
    (a24 : PySem.W.nsIn K mainGlobals "_law_told" = some (some (.ref fa24)))
    (l24 : K.lookup fa24 = some ⟨oc24, od24, .func (PySem.W.fnOf "_law_told" "_law_told" (defArgs t24) (defBody t24) (defScope t24) .none kV24 dc24 pm24 an24 cd24 ct_24), sl24⟩)
    (c24 : PySem.W.codeIn K cd24 "_law_told" = true)
    (k24 : PySem.W.keepIn K (.ref fa24) = true)
    {fa25 : Addr} {oc25 kV25 dc25 pm25 cd25 ct_25 : Value} {od25 an25 : Option Addr} {sl25 : Array (Option Value)}
    (a25 : PySem.W.nsIn K mainGlobals "law" = some (some (.ref fa25)))
    (l25 : K.lookup fa25 = some ⟨oc25, od25, .func (PySem.W.fnOf "law" "law" (defArgs t25) (defBody t25) (defScope t25) .none kV25 dc25 pm25 an25 cd25 ct_25), sl25⟩)
    (c25 : PySem.W.codeIn K cd25 "law" = true)
    (k25 : PySem.W.keepIn K (.ref fa25) = true)
    (z_all : PySem.W.nsIn K mainGlobals "all" = some none)
    (z_bool : PySem.W.nsIn K mainGlobals "bool" = some none)
    (z_int : PySem.W.nsIn K mainGlobals "int" = some none)
    (z_isinstance : PySem.W.nsIn K mainGlobals "isinstance" = some none)
    (z_len : PySem.W.nsIn K mainGlobals "len" = some none)
    (z_list : PySem.W.nsIn K mainGlobals "list" = some none)
    (z_range : PySem.W.nsIn K mainGlobals "range" = some none)
    (z_repr : PySem.W.nsIn K mainGlobals "repr" = some none)
    (z_str : PySem.W.nsIn K mainGlobals "str" = some none)
    (z_tuple : PySem.W.nsIn K mainGlobals "tuple" = some none) :
    ∀ base : Heap, K.In base → base.Ns mainGlobals mg → LawG P w K mg base fa (spL K (dfn prg d_law 60)) := by
  have e : fa25 = fa := Value.ref.inj (Option.some.inj ((PySem.W.mg_of X G a25).symm.trans hfa))
  subst e
  intro base _ _
  let T (n : Nat) : Tb := ⟨P, w, ⟨K, (fun k => if k = 35 then some c_BadSaying else none), (fun _ => none), none⟩, mg, base, n, false⟩
  have HB : ∀ x, x ∈ blts → mg x = none := fun x hx => by
    simp only [blts, List.mem_cons, List.not_mem_nil, or_false] at hx
    rcases hx with rfl | rfl | rfl | rfl | rfl | rfl | rfl | rfl | rfl | rfl
    · exact PySem.W.mg_none_of X G z_all
    · exact PySem.W.mg_none_of X G z_bool
    · exact PySem.W.mg_none_of X G z_int
    · exact PySem.W.mg_none_of X G z_isinstance
    · exact PySem.W.mg_none_of X G z_len
    · exact PySem.W.mg_none_of X G z_list
    · exact PySem.W.mg_none_of X G z_range
    · exact PySem.W.mg_none_of X G z_repr
    · exact PySem.W.mg_none_of X G z_str
    · exact PySem.W.mg_none_of X G z_tuple
  have HC : ∀ (k : Nat) C, (fun k => if k = 35 then some c_BadSaying else none) k = some C → KC K C := fun k C h => by
    dsimp only at h
    split at h
    · rename_i hk
      subst hk
      cases h
      exact kc_of g_BadSaying gg_BadSaying e_BadSaying h_BadSaying i_BadSaying w_BadSaying u_n u_t o_BadSaying
    cases h
  have HF : ∀ (k : Nat) C, (fun k => if k = 35 then some c_BadSaying else none) k = some C → ∀ f ∈ (["what"] : List Str), PySem.W.findIn K (.ref C) f = some none := fun k C h => by
    dsimp only at h
    split at h
    · rename_i hk
      subst hk
      cases h
      intro f hf
      simp only [List.mem_cons, List.not_mem_nil, or_false] at hf
      rcases hf with rfl
      · exact n_BadSaying_what
    cases h
  have HX_HeadError : ∀ kk : Nat, ∃ cv, CN (T kk) "HeadError" cv ∧ ∀ (k : Nat) C, (T kk).g.cl k = some C → PySem.W.exmOne K (.ref C) cv = some (([0, 1, 2, 3, 4, 5, 6, 7, 8, 9, 10, 11, 12, 13, 14, 15, 16, 17, 18, 19, 20, 21, 22, 23, 24, 25, 26, 27, 28, 29, 30, 31, 32, 33, 34, 35, 36, 37, 38, 39, 40] : List Nat).contains k) ∧ PySem.W.kitOne K (.ref C) cv = some (([0, 1, 2, 3, 4, 5, 6, 7, 8, 9, 10, 11, 12, 13, 14, 15, 16, 17, 18, 19, 20, 21, 22, 23, 24, 25, 26, 27, 28, 29, 30, 31, 32, 33, 34, 35, 36, 37, 38, 39, 40] : List Nat).contains k) := fun kk => by
    refine ⟨(.ref c_HeadError), .own (PySem.W.mg_of X G a_HeadError), fun k C h => ?_⟩
    have h : (fun k => if k = 35 then some c_BadSaying else none) k = some C := h
    dsimp only at h
    split at h
    · rename_i hk
      subst hk
      cases h
      exact ⟨(exm_cls e_HeadError i_HeadError t_HeadError r_BadSaying_HeadError).trans (by rfl), (kit_cls' i_HeadError t_HeadError r_BadSaying_HeadError (by intro; rfl)).trans (by rfl)⟩
    cases h
  have HX_BadText : ∀ kk : Nat, ∃ cv, CN (T kk) "BadText" cv ∧ ∀ (k : Nat) C, (T kk).g.cl k = some C → PySem.W.exmOne K (.ref C) cv = some (([5] : List Nat).contains k) ∧ PySem.W.kitOne K (.ref C) cv = some (([5] : List Nat).contains k) := fun kk => by
    refine ⟨(.ref c_BadText), .own (PySem.W.mg_of X G a_BadText), fun k C h => ?_⟩
    have h : (fun k => if k = 35 then some c_BadSaying else none) k = some C := h
    dsimp only at h
    split at h
    · rename_i hk
      subst hk
      cases h
      exact ⟨(exm_cls e_BadText i_BadText t_BadText r_BadSaying_BadText).trans (by rfl), (kit_cls' i_BadText t_BadText r_BadSaying_BadText (by intro e; rw [e] at r_BadSaying_BadText; have z := r_BadText_BadText; rw [z] at r_BadSaying_BadText; cases r_BadSaying_BadText)).trans (by rfl)⟩
    cases h
  have HX_BadSaying : ∀ kk : Nat, ∃ cv, CN (T kk) "BadSaying" cv ∧ ∀ (k : Nat) C, (T kk).g.cl k = some C → PySem.W.exmOne K (.ref C) cv = some (([35] : List Nat).contains k) ∧ PySem.W.kitOne K (.ref C) cv = some (([35] : List Nat).contains k) := fun kk => by
    refine ⟨(.ref c_BadSaying), .own (PySem.W.mg_of X G a_BadSaying), fun k C h => ?_⟩
    have h : (fun k => if k = 35 then some c_BadSaying else none) k = some C := h
    dsimp only at h
    split at h
    · rename_i hk
      subst hk
      cases h
      exact ⟨(exm_cls e_BadSaying i_BadSaying t_BadSaying r_BadSaying_BadSaying).trans (by rfl), (kit_cls' i_BadSaying t_BadSaying r_BadSaying_BadSaying (by intro; rfl)).trans (by rfl)⟩
    cases h
  have HX_ValueError : ∀ kk : Nat, ∃ cv, CN (T kk) "ValueError" cv ∧ ∀ (k : Nat) C, (T kk).g.cl k = some C → PySem.W.exmOne K (.ref C) cv = some (([0, 1, 2, 3, 4, 5, 6, 7, 8, 9, 10, 11, 12, 13, 14, 15, 16, 17, 18, 19, 20, 21, 22, 23, 24, 25, 26, 27, 28, 29, 30, 31, 32, 33, 34, 35, 36, 37, 38, 39, 40] : List Nat).contains k) ∧ PySem.W.kitOne K (.ref C) cv = some (([0, 1, 2, 3, 4, 5, 6, 7, 8, 9, 10, 11, 12, 13, 14, 15, 16, 17, 18, 19, 20, 21, 22, 23, 24, 25, 26, 27, 28, 29, 30, 31, 32, 33, 34, 35, 36, 37, 38, 39, 40] : List Nat).contains k) := fun kk => by
    refine ⟨(.type "ValueError"), .blt (PySem.W.mg_none_of X G b_ValueError) (by decide +kernel) (by decide +kernel), fun k C h => ?_⟩
    have h : (fun k => if k = 35 then some c_BadSaying else none) k = some C := h
    dsimp only at h
    split at h
    · rename_i hk
      subst hk
      cases h
      exact ⟨(exm_ty be_ValueError (by decide +kernel) r_BadSaying_ValueError).trans (by rfl), (kit_tyX (by decide +kernel) r_BadSaying_ValueError).trans (by rfl)⟩
    cases h
  have DI_BadSaying := funD_mk jl_BadSaying jc_BadSaying jk_BadSaying
  have FI_BadSaying : FnOk P w K mg base CX0 1 fi_BadSaying _ ["self", "what"] (spI K ["what"]) := ini_ok (s := "self") (l := [("what", 1)]) DI_BadSaying ms0 rfl rfl (by decide +kernel) rfl
  have HI_BadSaying : ∀ f ∈ (["what"] : List Str), PySem.W.findIn K (.ref c_BadSaying) f = some none := fun f hf => by
    simp only [List.mem_cons, List.not_mem_nil, or_false] at hf
    rcases hf with rfl
    · exact n_BadSaying_what
  have BI_BadSaying := DI_BadSaying.bindsN (ps := ["self", "what"]) fun _ _ _ _ _ _ us hl => match us, hl with | [_, _], _ => rfl
  have D0 := funD_mk l0 c0 k0
  have D1 := funD_mkD l1 c1 k1 d1 rfl (dvs := [.int 0, .non]) ((.cons ⟨_, rfl⟩ (.cons rfl .nil))) (by simp)
  have D2 := funD_mk l2 c2 k2
  have D3 := funD_mk l3 c3 k3
  have D4 := funD_mkD l4 c4 k4 d4 rfl (dvs := [.non, .non]) ((.cons rfl (.cons rfl .nil))) (by simp)
  have D5 := funD_mk l5 c5 k5
  have D6 := funD_mk l6 c6 k6
  have HK6 : ∀ x d, ct6.consts.lookup x = some d → ∃ v u, mg x = some u ∧ RelV v u ∧ ∀ w : Ws, Rw (T 0).g w v d := fun x d h => by
    simp only [ct6, List.lookup_cons, List.lookup_nil] at h
    split at h
    · rename_i hx
      cases h
      rw [eq_of_beq hx]
      exact ⟨.int (4), _, PySem.W.mg_of X G q_MOST_LEVEL, ⟨_, rfl⟩, fun w => .int _⟩
    split at h
    · rename_i hx
      cases h
      rw [eq_of_beq hx]
      exact ⟨.int (4), _, PySem.W.mg_of X G q_MOST_PARTS, ⟨_, rfl⟩, fun w => .int _⟩
    split at h
    · rename_i hx
      cases h
      rw [eq_of_beq hx]
      exact ⟨.ref acCOMPARED, _, PySem.W.mg_of X G q_COMPARED, rfl, fun w => rw_tup (vs := [.str "most", .str "same"]) (ds := [.str "most", .str "same"]) ql_COMPARED (by simp) (.cons ⟨_, rfl⟩ (.cons ⟨_, rfl⟩ .nil)) (fun _ _ => (.cons (.str _) (.cons (.str _) .nil))) w⟩
    split at h
    · rename_i hx
      cases h
      rw [eq_of_beq hx]
      exact ⟨.ref acJOINED, _, PySem.W.mg_of X G q_JOINED, rfl, fun w => rw_tup (vs := [.str "and", .str "or"]) (ds := [.str "and", .str "or"]) ql_JOINED (by simp) (.cons ⟨_, rfl⟩ (.cons ⟨_, rfl⟩ .nil)) (fun _ _ => (.cons (.str _) (.cons (.str _) .nil))) w⟩
    cases h
  have HR6 : ∀ kk, 2 ≤ kk → ∀ x k fs, ct6.rais.lookup x = some (k, fs) → RaiseGood (T kk) x k fs := fun kk hkk x k fs h => by
    simp only [ct6, List.lookup_cons, List.lookup_nil] at h
    split at h
    · rename_i hx
      cases h
      rw [eq_of_beq hx]
      exact raiN (T := T kk) (kl := 1) (by rfl) (PySem.W.mg_of X G a_BadSaying) (oex_of x_BadSaying v_BadSaying s_BadSaying e_BadSaying t_BadSaying k_BadSaying) j_BadSaying jt_BadSaying HI_BadSaying FI_BadSaying BI_BadSaying (by show 1 + 1 ≤ kk; omega) (by simp) (by simp)
    cases h
  have D7 := funD_mk l7 c7 k7
  have HD7 : ∀ (kk : Nat) x kvs, ct7.dcts.lookup x = some kvs → DGood (T kk) x kvs := fun kk x kvs h => by
    simp only [ct7, List.lookup_cons, List.lookup_nil] at h
    split at h
    · rename_i hx
      cases h
      rw [eq_of_beq hx]
      refine ⟨acENTRIES, esENTRIES, ncENTRIES, PySem.W.mg_of X G q_ENTRIES, ql_ENTRIES, qk_ENTRIES, qs_ENTRIES, fun z o h => ?_⟩
      simp only [List.lookup_cons, List.lookup_nil] at h
      split at h
      · rename_i hz
        cases h
        rw [eq_of_beq hz]
        exact ⟨_, qe_ENTRIES0, ⟨_, rfl⟩⟩
      split at h
      · rename_i hz
        cases h
        rw [eq_of_beq hz]
        exact ⟨_, qe_ENTRIES1, ⟨_, rfl⟩⟩
      split at h
      · rename_i hz
        cases h
        rw [eq_of_beq hz]
        exact ⟨_, qe_ENTRIES2, ⟨_, rfl⟩⟩
      split at h
      · rename_i hz
        cases h
        rw [eq_of_beq hz]
        exact ⟨_, qe_ENTRIES3, ⟨_, rfl⟩⟩
      split at h
      · rename_i hz
        cases h
        rw [eq_of_beq hz]
        exact ⟨_, qe_ENTRIES4, ⟨_, rfl⟩⟩
      split at h
      · rename_i hz
        cases h
        rw [eq_of_beq hz]
        exact ⟨_, qe_ENTRIES5, rfl⟩
      cases h
    cases h
  have HR7 : ∀ kk, 2 ≤ kk → ∀ x k fs, ct7.rais.lookup x = some (k, fs) → RaiseGood (T kk) x k fs := fun kk hkk x k fs h => by
    simp only [ct7, List.lookup_cons, List.lookup_nil] at h
    split at h
    · rename_i hx
      cases h
      rw [eq_of_beq hx]
      exact raiN (T := T kk) (kl := 1) (by rfl) (PySem.W.mg_of X G a_BadSaying) (oex_of x_BadSaying v_BadSaying s_BadSaying e_BadSaying t_BadSaying k_BadSaying) j_BadSaying jt_BadSaying HI_BadSaying FI_BadSaying BI_BadSaying (by show 1 + 1 ≤ kk; omega) (by simp) (by simp)
    cases h
  have D8 := funD_mk l8 c8 k8
  have HK8 : ∀ x d, ct8.consts.lookup x = some d → ∃ v u, mg x = some u ∧ RelV v u ∧ ∀ w : Ws, Rw (T 0).g w v d := fun x d h => by
    simp only [ct8, List.lookup_cons, List.lookup_nil] at h
    split at h
    · rename_i hx
      cases h
      rw [eq_of_beq hx]
      exact ⟨.int (-1), _, PySem.W.mg_of X G q_HEADS, ⟨_, rfl⟩, fun w => .int _⟩
    split at h
    · rename_i hx
      cases h
      rw [eq_of_beq hx]
      exact ⟨.int (5), _, PySem.W.mg_of X G q_MOST_TERMS, ⟨_, rfl⟩, fun w => .int _⟩
    split at h
    · rename_i hx
      cases h
      rw [eq_of_beq hx]
      exact ⟨.int (999), _, PySem.W.mg_of X G q_MOST_FACTOR, ⟨_, rfl⟩, fun w => .int _⟩
    split at h
    · rename_i hx
      cases h
      rw [eq_of_beq hx]
      exact ⟨.int (999999), _, PySem.W.mg_of X G q_MOST_NUMBER, ⟨_, rfl⟩, fun w => .int _⟩
    cases h
  have HR8 : ∀ kk, 2 ≤ kk → ∀ x k fs, ct8.rais.lookup x = some (k, fs) → RaiseGood (T kk) x k fs := fun kk hkk x k fs h => by
    simp only [ct8, List.lookup_cons, List.lookup_nil] at h
    split at h
    · rename_i hx
      cases h
      rw [eq_of_beq hx]
      exact raiN (T := T kk) (kl := 1) (by rfl) (PySem.W.mg_of X G a_BadSaying) (oex_of x_BadSaying v_BadSaying s_BadSaying e_BadSaying t_BadSaying k_BadSaying) j_BadSaying jt_BadSaying HI_BadSaying FI_BadSaying BI_BadSaying (by show 1 + 1 ≤ kk; omega) (by simp) (by simp)
    cases h
  have D9 := funD_mk l9 c9 k9
  have D10 := funD_mk l10 c10 k10
  have D11 := funD_mk l11 c11 k11
  have D12 := funD_mk l12 c12 k12
  have D13 := funD_mk l13 c13 k13
  have D14 := funD_mk l14 c14 k14
  have D15 := funD_mk l15 c15 k15
  have D16 := funD_mk l16 c16 k16
  have D17 := funD_mk l17 c17 k17
  have D18 := funD_mk l18 c18 k18
  have D19 := funD_mk l19 c19 k19
  have D20 := funD_mk l20 c20 k20
  have D21 := funD_mk l21 c21 k21
  have D22 := funD_mk l22 c22 k22
  have D23 := funD_mk l23 c23 k23
  have D24 := funD_mk l24 c24 k24
  have HE24 : ∀ (kk : Nat) x ks, ct24.exn.lookup x = some ks → ∃ cv, CN (T kk) x cv ∧ ∀ (k : Nat) C, (T kk).g.cl k = some C → PySem.W.exmOne K (.ref C) cv = some (ks.contains k) ∧ PySem.W.kitOne K (.ref C) cv = some (ks.contains k) := fun kk x ks h => by
    simp only [ct24, List.lookup_cons, List.lookup_nil] at h
    split at h
    · rename_i hx
      cases h
      rw [eq_of_beq hx]
      exact HX_HeadError kk
    split at h
    · rename_i hx
      cases h
      rw [eq_of_beq hx]
      exact HX_BadText kk
    split at h
    · rename_i hx
      cases h
      rw [eq_of_beq hx]
      exact HX_BadSaying kk
    split at h
    · rename_i hx
      cases h
      rw [eq_of_beq hx]
      exact HX_ValueError kk
    cases h
  have D25 := funD_mk l25 c25 k25
  obtain ⟨ds0, V0, B0⟩ := D1.binds1 (ps := P1) 1 0 (by simp) rfl (fun _ _ _ _ _ _ _ us its h1 h2 => match us, its, h1, h2 with | [_], [_, _], _, _ => ⟨_, rfl, rfl⟩)
  have B1 := D3.bindsN (ps := P3) fun _ _ _ _ _ _ us hl => match us, hl with | [_], _ => rfl
  have V1 : Vals [] [] := .nil
  have B2 := D0.bindsN (ps := P0) fun _ _ _ _ _ _ us hl => match us, hl with | [_], _ => rfl
  have V2 : Vals [] [] := .nil
  have B3 := D6.bindsN (ps := P6) fun _ _ _ _ _ _ us hl => match us, hl with | [_, _, _], _ => rfl
  have V3 : Vals [] [] := .nil
  have B4 := D7.bindsN (ps := P7) fun _ _ _ _ _ _ us hl => match us, hl with | [_], _ => rfl
  have V4 : Vals [] [] := .nil
  have B5 := D9.bindsN (ps := P9) fun _ _ _ _ _ _ us hl => match us, hl with | [_], _ => rfl
  have V5 : Vals [] [] := .nil
  have B6 := D8.bindsN (ps := P8) fun _ _ _ _ _ _ us hl => match us, hl with | [_, _, _], _ => rfl
  have V6 : Vals [] [] := .nil
  obtain ⟨ds7, V7, B7⟩ := D1.binds1 (ps := P1) 3 2 (by simp) rfl (fun _ _ _ _ _ _ _ us its h1 h2 => match us, its, h1, h2 with | [_, _, _], [_, _], _, _ => ⟨_, rfl, rfl⟩)
  obtain ⟨ds8, V8, B8⟩ := D1.binds1 (ps := P1) 2 1 (by simp) rfl (fun _ _ _ _ _ _ _ us its h1 h2 => match us, its, h1, h2 with | [_, _], [_, _], _, _ => ⟨_, rfl, rfl⟩)
  obtain ⟨ds9, V9, B9⟩ := D4.binds1 (ps := P4) 3 2 (by simp) rfl (fun _ _ _ _ _ _ _ us its h1 h2 => match us, its, h1, h2 with | [_, _, _], [_, _], _, _ => ⟨_, rfl, rfl⟩)
  have B10 := D2.bindsN (ps := P2) fun _ _ _ _ _ _ us hl => match us, hl with | [_], _ => rfl
  have V10 : Vals [] [] := .nil
  have B11 := D12.bindsN (ps := P12) fun _ _ _ _ _ _ us hl => match us, hl with | [_, _], _ => rfl
  have V11 : Vals [] [] := .nil
  have B12 := D11.bindsN (ps := P11) fun _ _ _ _ _ _ us hl => match us, hl with | [_, _], _ => rfl
  have V12 : Vals [] [] := .nil
  have B13 := D14.bindsN (ps := P14) fun _ _ _ _ _ _ us hl => match us, hl with | [_], _ => rfl
  have V13 : Vals [] [] := .nil
  have B14 := D15.bindsN (ps := P15) fun _ _ _ _ _ _ us hl => match us, hl with | [_, _, _], _ => rfl
  have V14 : Vals [] [] := .nil
  have B15 := D13.bindsN (ps := P13) fun _ _ _ _ _ _ us hl => match us, hl with | [_, _], _ => rfl
  have V15 : Vals [] [] := .nil
  have B16 := D16.bindsN (ps := P16) fun _ _ _ _ _ _ us hl => match us, hl with | [_, _], _ => rfl
  have V16 : Vals [] [] := .nil
  have B17 := D17.bindsN (ps := P17) fun _ _ _ _ _ _ us hl => match us, hl with | [_, _, _], _ => rfl
  have V17 : Vals [] [] := .nil
  have B18 := D21.bindsN (ps := P21) fun _ _ _ _ _ _ us hl => match us, hl with | [_, _], _ => rfl
  have V18 : Vals [] [] := .nil
  have B19 := D20.bindsN (ps := P20) fun _ _ _ _ _ _ us hl => match us, hl with | [_, _, _], _ => rfl
  have V19 : Vals [] [] := .nil
  have B20 := D18.bindsN (ps := P18) fun _ _ _ _ _ _ us hl => match us, hl with | [_, _, _], _ => rfl
  have V20 : Vals [] [] := .nil
  have B21 := D19.bindsN (ps := P19) fun _ _ _ _ _ _ us hl => match us, hl with | [_, _, _], _ => rfl
  have V21 : Vals [] [] := .nil
  have B22 := D22.bindsN (ps := P22) fun _ _ _ _ _ _ us hl => match us, hl with | [_, _], _ => rfl
  have V22 : Vals [] [] := .nil
  have B23 := D23.bindsN (ps := P23) fun _ _ _ _ _ _ us hl => match us, hl with | [_, _, _, _], _ => rfl
  have V23 : Vals [] [] := .nil
  have B24 := D5.bindsN (ps := P5) fun _ _ _ _ _ _ us hl => match us, hl with | [_, _], _ => rfl
  have V24 : Vals [] [] := .nil
  have B25 := D10.bindsN (ps := P10) fun _ _ _ _ _ _ us hl => match us, hl with | [_], _ => rfl
  have V25 : Vals [] [] := .nil
  have B26 := D24.bindsN (ps := P24) fun _ _ _ _ _ _ us hl => match us, hl with | [_, _], _ => rfl
  have V26 : Vals [] [] := .nil
  have OG : ∀ i : Nat, FnOk P w K mg base (L2.CX P w) (2 + i) fa0 (PySem.W.fnOf "is_integer" "is_integer" (defArgs t0) (defBody t0) (defScope t0) .none kV0 dc0 pm0 an0 cd0 ct_0) P0 (spD (T 0).g [false] P0.length (dfn prg Lb.d_is_integer i)) ∧ FnOk P w K mg base (L2.CX P w) (2 + i) fa1 (PySem.W.fnOf "is_sequence" "is_sequence" (defArgs t1) (defBody t1) (defScope t1) (.ref dT1) kV1 dc1 pm1 an1 cd1 ct_1) P1 (spD (T 0).g [false, false, false] P1.length (dfn prg Lb.d_is_sequence i)) ∧ FnOk P w K mg base (L2.CX P w) (2 + i) fa2 (PySem.W.fnOf "is_couple" "is_couple" (defArgs t2) (defBody t2) (defScope t2) .none kV2 dc2 pm2 an2 cd2 ct_2) P2 (spD (T 0).g [false] P2.length (dfn prg d_is_couple i)) ∧ FnOk P w K mg base (L2.CX P w) (2 + i) fa3 (PySem.W.fnOf "as_tuples" "as_tuples" (defArgs t3) (defBody t3) (defScope t3) .none kV3 dc3 pm3 an3 cd3 ct_3) P3 (spD (T 0).g [false] P3.length (dfn prg d_as_tuples i)) ∧ FnOk P w K mg base (L2.CX P w) (2 + i) fa4 (PySem.W.fnOf "is_whole" "is_whole" (defArgs t4) (defBody t4) (defScope t4) (.ref dT4) kV4 dc4 pm4 an4 cd4 ct_4) P4 (spD (T 0).g [false, false, false] P4.length (dfn prg Lb.d_is_whole i)) ∧ FnOk P w K mg base (L2.CX P w) (2 + i) fa5 (PySem.W.fnOf "check_saying" "check_saying" (defArgs t5) (defBody t5) (defScope t5) .none kV5 dc5 pm5 an5 cd5 ct_5) P5 (spD (T 0).g [false, false] P5.length (dfn prg d_check_saying i)) ∧ FnOk P w K mg base (L2.CX P w) (2 + i) fa6 (PySem.W.fnOf "_check_within" "_check_within" (defArgs t6) (defBody t6) (defScope t6) .none kV6 dc6 pm6 an6 cd6 ct_6) P6 (spD (T 0).g [false, false, false] P6.length (dfn prg d__check_within i)) ∧ FnOk P w K mg base (L2.CX P w) (2 + i) fa7 (PySem.W.fnOf "_check_form" "_check_form" (defArgs t7) (defBody t7) (defScope t7) .none kV7 dc7 pm7 an7 cd7 ct_7) P7 (spD (T 0).g [false] P7.length (dfn prg d__check_form i)) ∧ FnOk P w K mg base (L2.CX P w) (2 + i) fa8 (PySem.W.fnOf "_check_comparison" "_check_comparison" (defArgs t8) (defBody t8) (defScope t8) .none kV8 dc8 pm8 an8 cd8 ct_8) P8 (spD (T 0).g [false, false, false] P8.length (dfn prg d__check_comparison i)) ∧ FnOk P w K mg base (L2.CX P w) (2 + i) fa9 (PySem.W.fnOf "_parts_of" "_parts_of" (defArgs t9) (defBody t9) (defScope t9) .none kV9 dc9 pm9 an9 cd9 ct_9) P9 (spD (T 0).g [false] P9.length (dfn prg d__parts_of i)) ∧ FnOk P w K mg base (L2.CX P w) (2 + i) fa10 (PySem.W.fnOf "_law_open" "_law_open" (defArgs t10) (defBody t10) (defScope t10) .none kV10 dc10 pm10 an10 cd10 ct_10) P10 (spD (T 0).g [false] P10.length (dfn prg Lb.d__law_open i)) ∧ FnOk P w K mg base (L2.CX P w) (2 + i) fa11 (PySem.W.fnOf "_law_draw" "_law_draw" (defArgs t11) (defBody t11) (defScope t11) .none kV11 dc11 pm11 an11 cd11 ct_11) P11 (spD (T 0).g [false, false] P11.length (dfn prg Lb.d__law_draw i)) ∧ FnOk P w K mg base (L2.CX P w) (2 + i) fa12 (PySem.W.fnOf "_law_same" "_law_same" (defArgs t12) (defBody t12) (defScope t12) .none kV12 dc12 pm12 an12 cd12 ct_12) P12 (spD (T 0).g [false, false] P12.length (dfn prg d__law_same i)) ∧ FnOk P w K mg base (L2.CX P w) (2 + i) fa13 (PySem.W.fnOf "_law_pick" "_law_pick" (defArgs t13) (defBody t13) (defScope t13) .none kV13 dc13 pm13 an13 cd13 ct_13) P13 (spD (T 0).g [false, false] P13.length (dfn prg d__law_pick i)) ∧ FnOk P w K mg base (L2.CX P w) (2 + i) fa14 (PySem.W.fnOf "_law_listed" "_law_listed" (defArgs t14) (defBody t14) (defScope t14) .none kV14 dc14 pm14 an14 cd14 ct_14) P14 (spD (T 0).g [false] P14.length (dfn prg d__law_listed i)) ∧ FnOk P w K mg base (L2.CX P w) (2 + i) fa15 (PySem.W.fnOf "_law_terms" "_law_terms" (defArgs t15) (defBody t15) (defScope t15) .none kV15 dc15 pm15 an15 cd15 ct_15) P15 (spD (T 0).g [false, false, false] P15.length (dfn prg d__law_terms i)) ∧ FnOk P w K mg base (L2.CX P w) (2 + i) fa16 (PySem.W.fnOf "_law_comparison" "_law_comparison" (defArgs t16) (defBody t16) (defScope t16) .none kV16 dc16 pm16 an16 cd16 ct_16) P16 (spD (T 0).g [false, false] P16.length (dfn prg d__law_comparison i)) ∧ FnOk P w K mg base (L2.CX P w) (2 + i) fa17 (PySem.W.fnOf "_law_saying" "_law_saying" (defArgs t17) (defBody t17) (defScope t17) .none kV17 dc17 pm17 an17 cd17 ct_17) P17 (spD (T 0).g [false, false, false] P17.length (dfn prg d__law_saying i)) ∧ FnOk P w K mg base (L2.CX P w) (2 + i) fa18 (PySem.W.fnOf "_law_is_row" "_law_is_row" (defArgs t18) (defBody t18) (defScope t18) .none kV18 dc18 pm18 an18 cd18 ct_18) P18 (spD (T 0).g [false, false, false] P18.length (dfn prg d__law_is_row i)) ∧ FnOk P w K mg base (L2.CX P w) (2 + i) fa19 (PySem.W.fnOf "_law_is_number" "_law_is_number" (defArgs t19) (defBody t19) (defScope t19) .none kV19 dc19 pm19 an19 cd19 ct_19) P19 (spD (T 0).g [false, false, false] P19.length (dfn prg d__law_is_number i)) ∧ FnOk P w K mg base (L2.CX P w) (2 + i) fa20 (PySem.W.fnOf "_law_fault" "_law_fault" (defArgs t20) (defBody t20) (defScope t20) .none kV20 dc20 pm20 an20 cd20 ct_20) P20 (spD (T 0).g [false, false, false] P20.length (dfn prg d__law_fault i)) ∧ FnOk P w K mg base (L2.CX P w) (2 + i) fa21 (PySem.W.fnOf "_law_comparison_fault" "_law_comparison_fault" (defArgs t21) (defBody t21) (defScope t21) .none kV21 dc21 pm21 an21 cd21 ct_21) P21 (spD (T 0).g [false, false] P21.length (dfn prg d__law_comparison_fault i)) ∧ FnOk P w K mg base (L2.CX P w) (2 + i) fa22 (PySem.W.fnOf "_law_odd" "_law_odd" (defArgs t22) (defBody t22) (defScope t22) .none kV22 dc22 pm22 an22 cd22 ct_22) P22 (spD (T 0).g [false, false] P22.length (dfn prg d__law_odd i)) ∧ FnOk P w K mg base (L2.CX P w) (2 + i) fa23 (PySem.W.fnOf "_law_changed" "_law_changed" (defArgs t23) (defBody t23) (defScope t23) .none kV23 dc23 pm23 an23 cd23 ct_23) P23 (spD (T 0).g [false, false, false, false] P23.length (dfn prg d__law_changed i)) ∧ FnOk P w K mg base (L2.CX P w) (2 + i) fa24 (PySem.W.fnOf "_law_told" "_law_told" (defArgs t24) (defBody t24) (defScope t24) .none kV24 dc24 pm24 an24 cd24 ct_24) P24 (spD (T 0).g [false, false] P24.length (dfn prg d__law_told i)) := fun i => by
    induction i with
    | zero => exact ⟨fn_badAny, fn_badAny, fn_badAny, fn_badAny, fn_badAny, fn_badAny, fn_badAny, fn_badAny, fn_badAny, fn_badAny, fn_badAny, fn_badAny, fn_badAny, fn_badAny, fn_badAny, fn_badAny, fn_badAny, fn_badAny, fn_badAny, fn_badAny, fn_badAny, fn_badAny, fn_badAny, fn_badAny, fn_badAny⟩
    | succ i hh =>
      obtain ⟨o0, o1, o2, o3, o4, o5, o6, o7, o8, o9, o10, o11, o12, o13, o14, o15, o16, o17, o18, o19, o20, o21, o22, o23, o24⟩ := hh
      have cg0 : CallGood (T (2 + i)) ⟨"is_sequence", 1, [], [false]⟩ (fun as s => dfn prg Lb.d_is_sequence i (Lb.d_is_sequence.arr 1 [] as) s) := callGood (T := T (2 + i)) (n := 1) (ms := [false]) (dds := [.int 0, .non]) (k := 2 + i) (Nat.le_refl _) (PySem.W.mg_of X G a1) k1 B0 V0 (fun w => by repeat constructor) rfl rfl (by decide) o1
      have cg1 : CallGood (T (2 + i)) ⟨"as_tuples", 1, [], [false]⟩ (fun as s => dfn prg d_as_tuples i (d_as_tuples.arr 1 [] as) s) := callGood (T := T (2 + i)) (n := 1) (ms := [false]) (dds := []) (k := 2 + i) (Nat.le_refl _) (PySem.W.mg_of X G a3) k3 B1 V1 (fun w => by repeat constructor) rfl rfl (by decide) o3
      have cg2 : CallGood (T (2 + i)) ⟨"is_integer", 1, [], [false]⟩ (fun as s => dfn prg Lb.d_is_integer i (Lb.d_is_integer.arr 1 [] as) s) := callGood (T := T (2 + i)) (n := 1) (ms := [false]) (dds := []) (k := 2 + i) (Nat.le_refl _) (PySem.W.mg_of X G a0) k0 B2 V2 (fun w => by repeat constructor) rfl rfl (by decide) o0
      have cg3 : CallGood (T (2 + i)) ⟨"_check_within", 3, [], [false, false, false]⟩ (fun as s => dfn prg d__check_within i (d__check_within.arr 3 [] as) s) := callGood (T := T (2 + i)) (n := 3) (ms := [false, false, false]) (dds := []) (k := 2 + i) (Nat.le_refl _) (PySem.W.mg_of X G a6) k6 B3 V3 (fun w => by repeat constructor) rfl rfl (by decide) o6
      have cg4 : CallGood (T (2 + i)) ⟨"_check_form", 1, [], [false]⟩ (fun as s => dfn prg d__check_form i (d__check_form.arr 1 [] as) s) := callGood (T := T (2 + i)) (n := 1) (ms := [false]) (dds := []) (k := 2 + i) (Nat.le_refl _) (PySem.W.mg_of X G a7) k7 B4 V4 (fun w => by repeat constructor) rfl rfl (by decide) o7
      have cg5 : CallGood (T (2 + i)) ⟨"_parts_of", 1, [], [false]⟩ (fun as s => dfn prg d__parts_of i (d__parts_of.arr 1 [] as) s) := callGood (T := T (2 + i)) (n := 1) (ms := [false]) (dds := []) (k := 2 + i) (Nat.le_refl _) (PySem.W.mg_of X G a9) k9 B5 V5 (fun w => by repeat constructor) rfl rfl (by decide) o9
      have cg6 : CallGood (T (2 + i)) ⟨"_check_comparison", 3, [], [false, false, false]⟩ (fun as s => dfn prg d__check_comparison i (d__check_comparison.arr 3 [] as) s) := callGood (T := T (2 + i)) (n := 3) (ms := [false, false, false]) (dds := []) (k := 2 + i) (Nat.le_refl _) (PySem.W.mg_of X G a8) k8 B6 V6 (fun w => by repeat constructor) rfl rfl (by decide) o8
      have cg7 : CallGood (T (2 + i)) ⟨"is_sequence", 3, [], [false, false, false]⟩ (fun as s => dfn prg Lb.d_is_sequence i (Lb.d_is_sequence.arr 3 [] as) s) := callGood (T := T (2 + i)) (n := 3) (ms := [false, false, false]) (dds := []) (k := 2 + i) (Nat.le_refl _) (PySem.W.mg_of X G a1) k1 B7 V7 (fun w => by repeat constructor) rfl rfl (by decide) o1
      have cg8 : CallGood (T (2 + i)) ⟨"is_sequence", 2, [], [false, false]⟩ (fun as s => dfn prg Lb.d_is_sequence i (Lb.d_is_sequence.arr 2 [] as) s) := callGood (T := T (2 + i)) (n := 2) (ms := [false, false]) (dds := [.non]) (k := 2 + i) (Nat.le_refl _) (PySem.W.mg_of X G a1) k1 B8 V8 (fun w => by repeat constructor) rfl rfl (by decide) o1
      have cg9 : CallGood (T (2 + i)) ⟨"is_whole", 3, [], [false, false, false]⟩ (fun as s => dfn prg Lb.d_is_whole i (Lb.d_is_whole.arr 3 [] as) s) := callGood (T := T (2 + i)) (n := 3) (ms := [false, false, false]) (dds := []) (k := 2 + i) (Nat.le_refl _) (PySem.W.mg_of X G a4) k4 B9 V9 (fun w => by repeat constructor) rfl rfl (by decide) o4
      have cg10 : CallGood (T (2 + i)) ⟨"is_couple", 1, [], [false]⟩ (fun as s => dfn prg d_is_couple i (d_is_couple.arr 1 [] as) s) := callGood (T := T (2 + i)) (n := 1) (ms := [false]) (dds := []) (k := 2 + i) (Nat.le_refl _) (PySem.W.mg_of X G a2) k2 B10 V10 (fun w => by repeat constructor) rfl rfl (by decide) o2
      have cg11 : CallGood (T (2 + i)) ⟨"_law_same", 2, [], [false, false]⟩ (fun as s => dfn prg d__law_same i (d__law_same.arr 2 [] as) s) := callGood (T := T (2 + i)) (n := 2) (ms := [false, false]) (dds := []) (k := 2 + i) (Nat.le_refl _) (PySem.W.mg_of X G a12) k12 B11 V11 (fun w => by repeat constructor) rfl rfl (by decide) o12
      have cg12 : CallGood (T (2 + i)) ⟨"_law_draw", 2, [], [false, false]⟩ (fun as s => dfn prg Lb.d__law_draw i (Lb.d__law_draw.arr 2 [] as) s) := callGood (T := T (2 + i)) (n := 2) (ms := [false, false]) (dds := []) (k := 2 + i) (Nat.le_refl _) (PySem.W.mg_of X G a11) k11 B12 V12 (fun w => by repeat constructor) rfl rfl (by decide) o11
      have cg13 : CallGood (T (2 + i)) ⟨"_law_listed", 1, [], [false]⟩ (fun as s => dfn prg d__law_listed i (d__law_listed.arr 1 [] as) s) := callGood (T := T (2 + i)) (n := 1) (ms := [false]) (dds := []) (k := 2 + i) (Nat.le_refl _) (PySem.W.mg_of X G a14) k14 B13 V13 (fun w => by repeat constructor) rfl rfl (by decide) o14
      have cg14 : CallGood (T (2 + i)) ⟨"_law_terms", 3, [], [false, false, false]⟩ (fun as s => dfn prg d__law_terms i (d__law_terms.arr 3 [] as) s) := callGood (T := T (2 + i)) (n := 3) (ms := [false, false, false]) (dds := []) (k := 2 + i) (Nat.le_refl _) (PySem.W.mg_of X G a15) k15 B14 V14 (fun w => by repeat constructor) rfl rfl (by decide) o15
      have cg15 : CallGood (T (2 + i)) ⟨"_law_pick", 2, [], [false, false]⟩ (fun as s => dfn prg d__law_pick i (d__law_pick.arr 2 [] as) s) := callGood (T := T (2 + i)) (n := 2) (ms := [false, false]) (dds := []) (k := 2 + i) (Nat.le_refl _) (PySem.W.mg_of X G a13) k13 B15 V15 (fun w => by repeat constructor) rfl rfl (by decide) o13
      have cg16 : CallGood (T (2 + i)) ⟨"_law_comparison", 2, [], [false, false]⟩ (fun as s => dfn prg d__law_comparison i (d__law_comparison.arr 2 [] as) s) := callGood (T := T (2 + i)) (n := 2) (ms := [false, false]) (dds := []) (k := 2 + i) (Nat.le_refl _) (PySem.W.mg_of X G a16) k16 B16 V16 (fun w => by repeat constructor) rfl rfl (by decide) o16
      have cg17 : CallGood (T (2 + i)) ⟨"_law_saying", 3, [], [false, false, false]⟩ (fun as s => dfn prg d__law_saying i (d__law_saying.arr 3 [] as) s) := callGood (T := T (2 + i)) (n := 3) (ms := [false, false, false]) (dds := []) (k := 2 + i) (Nat.le_refl _) (PySem.W.mg_of X G a17) k17 B17 V17 (fun w => by repeat constructor) rfl rfl (by decide) o17
      have cg18 : CallGood (T (2 + i)) ⟨"_law_comparison_fault", 2, [], [false, false]⟩ (fun as s => dfn prg d__law_comparison_fault i (d__law_comparison_fault.arr 2 [] as) s) := callGood (T := T (2 + i)) (n := 2) (ms := [false, false]) (dds := []) (k := 2 + i) (Nat.le_refl _) (PySem.W.mg_of X G a21) k21 B18 V18 (fun w => by repeat constructor) rfl rfl (by decide) o21
      have cg19 : CallGood (T (2 + i)) ⟨"_law_fault", 3, [], [false, false, false]⟩ (fun as s => dfn prg d__law_fault i (d__law_fault.arr 3 [] as) s) := callGood (T := T (2 + i)) (n := 3) (ms := [false, false, false]) (dds := []) (k := 2 + i) (Nat.le_refl _) (PySem.W.mg_of X G a20) k20 B19 V19 (fun w => by repeat constructor) rfl rfl (by decide) o20
      have cg20 : CallGood (T (2 + i)) ⟨"_law_is_row", 3, [], [false, false, false]⟩ (fun as s => dfn prg d__law_is_row i (d__law_is_row.arr 3 [] as) s) := callGood (T := T (2 + i)) (n := 3) (ms := [false, false, false]) (dds := []) (k := 2 + i) (Nat.le_refl _) (PySem.W.mg_of X G a18) k18 B20 V20 (fun w => by repeat constructor) rfl rfl (by decide) o18
      have cg21 : CallGood (T (2 + i)) ⟨"_law_is_number", 3, [], [false, false, false]⟩ (fun as s => dfn prg d__law_is_number i (d__law_is_number.arr 3 [] as) s) := callGood (T := T (2 + i)) (n := 3) (ms := [false, false, false]) (dds := []) (k := 2 + i) (Nat.le_refl _) (PySem.W.mg_of X G a19) k19 B21 V21 (fun w => by repeat constructor) rfl rfl (by decide) o19
      have cg22 : CallGood (T (2 + i)) ⟨"_law_odd", 2, [], [false, false]⟩ (fun as s => dfn prg d__law_odd i (d__law_odd.arr 2 [] as) s) := callGood (T := T (2 + i)) (n := 2) (ms := [false, false]) (dds := []) (k := 2 + i) (Nat.le_refl _) (PySem.W.mg_of X G a22) k22 B22 V22 (fun w => by repeat constructor) rfl rfl (by decide) o22
      have cg23 : CallGood (T (2 + i)) ⟨"_law_changed", 4, [], [false, false, false, false]⟩ (fun as s => dfn prg d__law_changed i (d__law_changed.arr 4 [] as) s) := callGood (T := T (2 + i)) (n := 4) (ms := [false, false, false, false]) (dds := []) (k := 2 + i) (Nat.le_refl _) (PySem.W.mg_of X G a23) k23 B23 V23 (fun w => by repeat constructor) rfl rfl (by decide) o23
      have cg24 : CallGood (T (2 + i)) ⟨"check_saying", 2, [], [false, false]⟩ (fun as s => dfn prg d_check_saying i (d_check_saying.arr 2 [] as) s) := callGood (T := T (2 + i)) (n := 2) (ms := [false, false]) (dds := []) (k := 2 + i) (Nat.le_refl _) (PySem.W.mg_of X G a5) k5 B24 V24 (fun w => by repeat constructor) rfl rfl (by decide) o5
      have cg25 : CallGood (T (2 + i)) ⟨"_law_open", 1, [], [false]⟩ (fun as s => dfn prg Lb.d__law_open i (Lb.d__law_open.arr 1 [] as) s) := callGood (T := T (2 + i)) (n := 1) (ms := [false]) (dds := []) (k := 2 + i) (Nat.le_refl _) (PySem.W.mg_of X G a10) k10 B25 V25 (fun w => by repeat constructor) rfl rfl (by decide) o10
      have cg26 : CallGood (T (2 + i)) ⟨"_law_told", 2, [], [false, false]⟩ (fun as s => dfn prg d__law_told i (d__law_told.arr 2 [] as) s) := callGood (T := T (2 + i)) (n := 2) (ms := [false, false]) (dds := []) (k := 2 + i) (Nat.le_refl _) (PySem.W.mg_of X G a24) k24 B26 V26 (fun w => by repeat constructor) rfl rfl (by decide) o24
      have p0 : FnOk P w K mg base (L2.CX P w) (2 + i + 1) fa0 (PySem.W.fnOf "is_integer" "is_integer" (defArgs t0) (defBody t0) (defScope t0) .none kV0 dc0 pm0 an0 cd0 ct_0) P0 (spD (T 0).g [false] P0.length (run (fnL prg i) Lb.d_is_integer.body [false] N0.length)) := fn_okD (T := T (2 + i)) (F := fnL prg i) (c := ct0) (psn := P0) (ms := [false]) D0 sc0 { calls := Calls.nil, consts := fun x d h => (by cases h), blts := HB, gcd := fun h => (by cases h), rais := fun x k fs h => (by cases h), exn := fun x ks h => (by cases h), kc := fun k C h => ⟨HC k C h, fun f hf => (by cases hf)⟩ } cb0
      have p1 : FnOk P w K mg base (L2.CX P w) (2 + i + 1) fa1 (PySem.W.fnOf "is_sequence" "is_sequence" (defArgs t1) (defBody t1) (defScope t1) (.ref dT1) kV1 dc1 pm1 an1 cd1 ct_1) P1 (spD (T 0).g [false, false, false] P1.length (run (fnL prg i) Lb.d_is_sequence.body [false, false, false] N1.length)) := fn_okD (T := T (2 + i)) (F := fnL prg i) (c := ct1) (psn := P1) (ms := [false, false, false]) D1 sc1 { calls := Calls.nil, consts := fun x d h => (by cases h), blts := HB, gcd := fun h => (by cases h), rais := fun x k fs h => (by cases h), exn := fun x ks h => (by cases h), kc := fun k C h => ⟨HC k C h, fun f hf => (by cases hf)⟩ } cb1
      have p2 : FnOk P w K mg base (L2.CX P w) (2 + i + 1) fa2 (PySem.W.fnOf "is_couple" "is_couple" (defArgs t2) (defBody t2) (defScope t2) .none kV2 dc2 pm2 an2 cd2 ct_2) P2 (spD (T 0).g [false] P2.length (run (fnL prg i) d_is_couple.body [false] N2.length)) := fn_okD (T := T (2 + i)) (F := fnL prg i) (c := ct2) (psn := P2) (ms := [false]) D2 sc2 { calls := Calls.nil, consts := fun x d h => (by cases h), blts := HB, gcd := fun h => (by cases h), rais := fun x k fs h => (by cases h), exn := fun x ks h => (by cases h), kc := fun k C h => ⟨HC k C h, fun f hf => (by cases hf)⟩ } cb2
      have p3 : FnOk P w K mg base (L2.CX P w) (2 + i + 1) fa3 (PySem.W.fnOf "as_tuples" "as_tuples" (defArgs t3) (defBody t3) (defScope t3) .none kV3 dc3 pm3 an3 cd3 ct_3) P3 (spD (T 0).g [false] P3.length (run (fnL prg i) d_as_tuples.body [false] N3.length)) := fn_okD (T := T (2 + i)) (F := fnL prg i) (c := ct3) (psn := P3) (ms := [false]) D3 sc3 { calls := (Calls.cons ⟨_, fnL_eq (d := Lb.d_is_sequence) (by rfl), cg0⟩ (Calls.cons ⟨_, fnL_eq (d := d_as_tuples) (by rfl), cg1⟩ Calls.nil)), consts := fun x d h => (by cases h), blts := HB, gcd := fun h => (by cases h), rais := fun x k fs h => (by cases h), exn := fun x ks h => (by cases h), kc := fun k C h => ⟨HC k C h, fun f hf => (by cases hf)⟩ } cb3
      have p4 : FnOk P w K mg base (L2.CX P w) (2 + i + 1) fa4 (PySem.W.fnOf "is_whole" "is_whole" (defArgs t4) (defBody t4) (defScope t4) (.ref dT4) kV4 dc4 pm4 an4 cd4 ct_4) P4 (spD (T 0).g [false, false, false] P4.length (run (fnL prg i) Lb.d_is_whole.body [false, false, false] N4.length)) := fn_okD (T := T (2 + i)) (F := fnL prg i) (c := ct4) (psn := P4) (ms := [false, false, false]) D4 sc4 { calls := (Calls.cons ⟨_, fnL_eq (d := Lb.d_is_integer) (by rfl), cg2⟩ Calls.nil), consts := fun x d h => (by cases h), blts := HB, gcd := fun h => (by cases h), rais := fun x k fs h => (by cases h), exn := fun x ks h => (by cases h), kc := fun k C h => ⟨HC k C h, fun f hf => (by cases hf)⟩ } cb4
      have p5 : FnOk P w K mg base (L2.CX P w) (2 + i + 1) fa5 (PySem.W.fnOf "check_saying" "check_saying" (defArgs t5) (defBody t5) (defScope t5) .none kV5 dc5 pm5 an5 cd5 ct_5) P5 (spD (T 0).g [false, false] P5.length (run (fnL prg i) d_check_saying.body [false, false] N5.length)) := fn_okD (T := T (2 + i)) (F := fnL prg i) (c := ct5) (psn := P5) (ms := [false, false]) D5 sc5 { calls := (Calls.cons ⟨_, fnL_eq (d := d__check_within) (by rfl), cg3⟩ (Calls.cons ⟨_, fnL_eq (d := d_as_tuples) (by rfl), cg1⟩ Calls.nil)), consts := fun x d h => (by cases h), blts := HB, gcd := fun h => (by cases h), rais := fun x k fs h => (by cases h), exn := fun x ks h => (by cases h), kc := fun k C h => ⟨HC k C h, fun f hf => (by cases hf)⟩ } cb5
      have p6 : FnOk P w K mg base (L2.CX P w) (2 + i + 1) fa6 (PySem.W.fnOf "_check_within" "_check_within" (defArgs t6) (defBody t6) (defScope t6) .none kV6 dc6 pm6 an6 cd6 ct_6) P6 (spD (T 0).g [false, false, false] P6.length (run (fnL prg i) d__check_within.body [false, false, false] N6.length)) := fn_okD (T := T (2 + i)) (F := fnL prg i) (c := ct6) (psn := P6) (ms := [false, false, false]) D6 sc6 { calls := (Calls.cons ⟨_, fnL_eq (d := d__check_form) (by rfl), cg4⟩ (Calls.cons ⟨_, fnL_eq (d := d__parts_of) (by rfl), cg5⟩ (Calls.cons ⟨_, fnL_eq (d := d__check_comparison) (by rfl), cg6⟩ (Calls.cons ⟨_, fnL_eq (d := d__check_within) (by rfl), cg3⟩ (Calls.cons ⟨_, fnL_eq (d := Lb.d_is_sequence) (by rfl), cg7⟩ Calls.nil))))), consts := fun x d h => HK6 x d h, blts := HB, gcd := fun h => (by cases h), rais := fun x k fs h => HR6 (2 + i) (by omega) x k fs h, exn := fun x ks h => (by cases h), kc := fun k C h => ⟨HC k C h, fun f hf => (by cases hf)⟩ } cb6
      have p7 : FnOk P w K mg base (L2.CX P w) (2 + i + 1) fa7 (PySem.W.fnOf "_check_form" "_check_form" (defArgs t7) (defBody t7) (defScope t7) .none kV7 dc7 pm7 an7 cd7 ct_7) P7 (spD (T 0).g [false] P7.length (run (fnL prg i) d__check_form.body [false] N7.length)) := fn_okD (T := T (2 + i)) (F := fnL prg i) (c := ct7) (psn := P7) (ms := [false]) D7 sc7 { calls := (Calls.cons ⟨_, fnL_eq (d := Lb.d_is_sequence) (by rfl), cg8⟩ Calls.nil), consts := fun x d h => (by cases h), blts := HB, dcts := HD7 (2 + i), gcd := fun h => (by cases h), rais := fun x k fs h => HR7 (2 + i) (by omega) x k fs h, exn := fun x ks h => (by cases h), kc := fun k C h => ⟨HC k C h, fun f hf => (by cases hf)⟩ } cb7
      have p8 : FnOk P w K mg base (L2.CX P w) (2 + i + 1) fa8 (PySem.W.fnOf "_check_comparison" "_check_comparison" (defArgs t8) (defBody t8) (defScope t8) .none kV8 dc8 pm8 an8 cd8 ct_8) P8 (spD (T 0).g [false, false, false] P8.length (run (fnL prg i) d__check_comparison.body [false, false, false] N8.length)) := fn_okD (T := T (2 + i)) (F := fnL prg i) (c := ct8) (psn := P8) (ms := [false, false, false]) D8 sc8 { calls := (Calls.cons ⟨_, fnL_eq (d := Lb.d_is_whole) (by rfl), cg9⟩ (Calls.cons ⟨_, fnL_eq (d := Lb.d_is_sequence) (by rfl), cg7⟩ (Calls.cons ⟨_, fnL_eq (d := d_is_couple) (by rfl), cg10⟩ Calls.nil))), consts := fun x d h => HK8 x d h, blts := HB, gcd := fun h => (by cases h), rais := fun x k fs h => HR8 (2 + i) (by omega) x k fs h, exn := fun x ks h => (by cases h), kc := fun k C h => ⟨HC k C h, fun f hf => (by cases hf)⟩ } cb8
      have p9 : FnOk P w K mg base (L2.CX P w) (2 + i + 1) fa9 (PySem.W.fnOf "_parts_of" "_parts_of" (defArgs t9) (defBody t9) (defScope t9) .none kV9 dc9 pm9 an9 cd9 ct_9) P9 (spD (T 0).g [false] P9.length (run (fnL prg i) d__parts_of.body [false] N9.length)) := fn_okD (T := T (2 + i)) (F := fnL prg i) (c := ct9) (psn := P9) (ms := [false]) D9 sc9 { calls := Calls.nil, consts := fun x d h => (by cases h), blts := HB, gcd := fun h => (by cases h), rais := fun x k fs h => (by cases h), exn := fun x ks h => (by cases h), kc := fun k C h => ⟨HC k C h, fun f hf => (by cases hf)⟩ } cb9
      have p10 : FnOk P w K mg base (L2.CX P w) (2 + i + 1) fa10 (PySem.W.fnOf "_law_open" "_law_open" (defArgs t10) (defBody t10) (defScope t10) .none kV10 dc10 pm10 an10 cd10 ct_10) P10 (spD (T 0).g [false] P10.length (run (fnL prg i) Lb.d__law_open.body [false] N10.length)) := fn_okD (T := T (2 + i)) (F := fnL prg i) (c := ct10) (psn := P10) (ms := [false]) D10 sc10 { calls := Calls.nil, consts := fun x d h => (by cases h), blts := HB, gcd := fun h => (by cases h), rais := fun x k fs h => (by cases h), exn := fun x ks h => (by cases h), kc := fun k C h => ⟨HC k C h, fun f hf => (by cases hf)⟩ } cb10
      have p11 : FnOk P w K mg base (L2.CX P w) (2 + i + 1) fa11 (PySem.W.fnOf "_law_draw" "_law_draw" (defArgs t11) (defBody t11) (defScope t11) .none kV11 dc11 pm11 an11 cd11 ct_11) P11 (spD (T 0).g [false, false] P11.length (run (fnL prg i) Lb.d__law_draw.body [false, false] N11.length)) := fn_okD (T := T (2 + i)) (F := fnL prg i) (c := ct11) (psn := P11) (ms := [false, false]) D11 sc11 { calls := Calls.nil, consts := fun x d h => (by cases h), blts := HB, gcd := fun h => (by cases h), rais := fun x k fs h => (by cases h), exn := fun x ks h => (by cases h), kc := fun k C h => ⟨HC k C h, fun f hf => (by cases hf)⟩ } cb11
      have p12 : FnOk P w K mg base (L2.CX P w) (2 + i + 1) fa12 (PySem.W.fnOf "_law_same" "_law_same" (defArgs t12) (defBody t12) (defScope t12) .none kV12 dc12 pm12 an12 cd12 ct_12) P12 (spD (T 0).g [false, false] P12.length (run (fnL prg i) d__law_same.body [false, false] N12.length)) := fn_okD (T := T (2 + i)) (F := fnL prg i) (c := ct12) (psn := P12) (ms := [false, false]) D12 sc12 { calls := (Calls.cons ⟨_, fnL_eq (d := d__law_same) (by rfl), cg11⟩ Calls.nil), consts := fun x d h => (by cases h), blts := HB, gcd := fun h => (by cases h), rais := fun x k fs h => (by cases h), exn := fun x ks h => (by cases h), kc := fun k C h => ⟨HC k C h, fun f hf => (by cases hf)⟩ } cb12
      have p13 : FnOk P w K mg base (L2.CX P w) (2 + i + 1) fa13 (PySem.W.fnOf "_law_pick" "_law_pick" (defArgs t13) (defBody t13) (defScope t13) .none kV13 dc13 pm13 an13 cd13 ct_13) P13 (spD (T 0).g [false, false] P13.length (run (fnL prg i) d__law_pick.body [false, false] N13.length)) := fn_okD (T := T (2 + i)) (F := fnL prg i) (c := ct13) (psn := P13) (ms := [false, false]) D13 sc13 { calls := (Calls.cons ⟨_, fnL_eq (d := Lb.d__law_draw) (by rfl), cg12⟩ Calls.nil), consts := fun x d h => (by cases h), blts := HB, gcd := fun h => (by cases h), rais := fun x k fs h => (by cases h), exn := fun x ks h => (by cases h), kc := fun k C h => ⟨HC k C h, fun f hf => (by cases hf)⟩ } cb13
      have p14 : FnOk P w K mg base (L2.CX P w) (2 + i + 1) fa14 (PySem.W.fnOf "_law_listed" "_law_listed" (defArgs t14) (defBody t14) (defScope t14) .none kV14 dc14 pm14 an14 cd14 ct_14) P14 (spD (T 0).g [false] P14.length (run (fnL prg i) d__law_listed.body [false] N14.length)) := fn_okD (T := T (2 + i)) (F := fnL prg i) (c := ct14) (psn := P14) (ms := [false]) D14 sc14 { calls := (Calls.cons ⟨_, fnL_eq (d := d__law_listed) (by rfl), cg13⟩ Calls.nil), consts := fun x d h => (by cases h), blts := HB, gcd := fun h => (by cases h), rais := fun x k fs h => (by cases h), exn := fun x ks h => (by cases h), kc := fun k C h => ⟨HC k C h, fun f hf => (by cases hf)⟩ } cb14
      have p15 : FnOk P w K mg base (L2.CX P w) (2 + i + 1) fa15 (PySem.W.fnOf "_law_terms" "_law_terms" (defArgs t15) (defBody t15) (defScope t15) .none kV15 dc15 pm15 an15 cd15 ct_15) P15 (spD (T 0).g [false, false, false] P15.length (run (fnL prg i) d__law_terms.body [false, false, false] N15.length)) := fn_okD (T := T (2 + i)) (F := fnL prg i) (c := ct15) (psn := P15) (ms := [false, false, false]) D15 sc15 { calls := (Calls.cons ⟨_, fnL_eq (d := Lb.d__law_draw) (by rfl), cg12⟩ Calls.nil), consts := fun x d h => (by cases h), blts := HB, gcd := fun h => (by cases h), rais := fun x k fs h => (by cases h), exn := fun x ks h => (by cases h), kc := fun k C h => ⟨HC k C h, fun f hf => (by cases hf)⟩ } cb15
      have p16 : FnOk P w K mg base (L2.CX P w) (2 + i + 1) fa16 (PySem.W.fnOf "_law_comparison" "_law_comparison" (defArgs t16) (defBody t16) (defScope t16) .none kV16 dc16 pm16 an16 cd16 ct_16) P16 (spD (T 0).g [false, false] P16.length (run (fnL prg i) d__law_comparison.body [false, false] N16.length)) := fn_okD (T := T (2 + i)) (F := fnL prg i) (c := ct16) (psn := P16) (ms := [false, false]) D16 sc16 { calls := (Calls.cons ⟨_, fnL_eq (d := d__law_terms) (by rfl), cg14⟩ (Calls.cons ⟨_, fnL_eq (d := Lb.d__law_draw) (by rfl), cg12⟩ (Calls.cons ⟨_, fnL_eq (d := d__law_pick) (by rfl), cg15⟩ Calls.nil))), consts := fun x d h => (by cases h), blts := HB, gcd := fun h => (by cases h), rais := fun x k fs h => (by cases h), exn := fun x ks h => (by cases h), kc := fun k C h => ⟨HC k C h, fun f hf => (by cases hf)⟩ } cb16
      have p17 : FnOk P w K mg base (L2.CX P w) (2 + i + 1) fa17 (PySem.W.fnOf "_law_saying" "_law_saying" (defArgs t17) (defBody t17) (defScope t17) .none kV17 dc17 pm17 an17 cd17 ct_17) P17 (spD (T 0).g [false, false, false] P17.length (run (fnL prg i) d__law_saying.body [false, false, false] N17.length)) := fn_okD (T := T (2 + i)) (F := fnL prg i) (c := ct17) (psn := P17) (ms := [false, false, false]) D17 sc17 { calls := (Calls.cons ⟨_, fnL_eq (d := Lb.d__law_draw) (by rfl), cg12⟩ (Calls.cons ⟨_, fnL_eq (d := d__law_comparison) (by rfl), cg16⟩ (Calls.cons ⟨_, fnL_eq (d := d__law_saying) (by rfl), cg17⟩ Calls.nil))), consts := fun x d h => (by cases h), blts := HB, gcd := fun h => (by cases h), rais := fun x k fs h => (by cases h), exn := fun x ks h => (by cases h), kc := fun k C h => ⟨HC k C h, fun f hf => (by cases hf)⟩ } cb17
      have p18 : FnOk P w K mg base (L2.CX P w) (2 + i + 1) fa18 (PySem.W.fnOf "_law_is_row" "_law_is_row" (defArgs t18) (defBody t18) (defScope t18) .none kV18 dc18 pm18 an18 cd18 ct_18) P18 (spD (T 0).g [false, false, false] P18.length (run (fnL prg i) d__law_is_row.body [false, false, false] N18.length)) := fn_okD (T := T (2 + i)) (F := fnL prg i) (c := ct18) (psn := P18) (ms := [false, false, false]) D18 sc18 { calls := Calls.nil, consts := fun x d h => (by cases h), blts := HB, gcd := fun h => (by cases h), rais := fun x k fs h => (by cases h), exn := fun x ks h => (by cases h), kc := fun k C h => ⟨HC k C h, fun f hf => (by cases hf)⟩ } cb18
      have p19 : FnOk P w K mg base (L2.CX P w) (2 + i + 1) fa19 (PySem.W.fnOf "_law_is_number" "_law_is_number" (defArgs t19) (defBody t19) (defScope t19) .none kV19 dc19 pm19 an19 cd19 ct_19) P19 (spD (T 0).g [false, false, false] P19.length (run (fnL prg i) d__law_is_number.body [false, false, false] N19.length)) := fn_okD (T := T (2 + i)) (F := fnL prg i) (c := ct19) (psn := P19) (ms := [false, false, false]) D19 sc19 { calls := Calls.nil, consts := fun x d h => (by cases h), blts := HB, gcd := fun h => (by cases h), rais := fun x k fs h => (by cases h), exn := fun x ks h => (by cases h), kc := fun k C h => ⟨HC k C h, fun f hf => (by cases hf)⟩ } cb19
      have p20 : FnOk P w K mg base (L2.CX P w) (2 + i + 1) fa20 (PySem.W.fnOf "_law_fault" "_law_fault" (defArgs t20) (defBody t20) (defScope t20) .none kV20 dc20 pm20 an20 cd20 ct_20) P20 (spD (T 0).g [false, false, false] P20.length (run (fnL prg i) d__law_fault.body [false, false, false] N20.length)) := fn_okD (T := T (2 + i)) (F := fnL prg i) (c := ct20) (psn := P20) (ms := [false, false, false]) D20 sc20 { calls := (Calls.cons ⟨_, fnL_eq (d := d__law_comparison_fault) (by rfl), cg18⟩ (Calls.cons ⟨_, fnL_eq (d := d__law_fault) (by rfl), cg19⟩ (Calls.cons ⟨_, fnL_eq (d := d__law_is_row) (by rfl), cg20⟩ Calls.nil))), consts := fun x d h => (by cases h), blts := HB, gcd := fun h => (by cases h), rais := fun x k fs h => (by cases h), exn := fun x ks h => (by cases h), kc := fun k C h => ⟨HC k C h, fun f hf => (by cases hf)⟩ } cb20
      have p21 : FnOk P w K mg base (L2.CX P w) (2 + i + 1) fa21 (PySem.W.fnOf "_law_comparison_fault" "_law_comparison_fault" (defArgs t21) (defBody t21) (defScope t21) .none kV21 dc21 pm21 an21 cd21 ct_21) P21 (spD (T 0).g [false, false] P21.length (run (fnL prg i) d__law_comparison_fault.body [false, false] N21.length)) := fn_okD (T := T (2 + i)) (F := fnL prg i) (c := ct21) (psn := P21) (ms := [false, false]) D21 sc21 { calls := (Calls.cons ⟨_, fnL_eq (d := d__law_is_row) (by rfl), cg20⟩ (Calls.cons ⟨_, fnL_eq (d := d__law_is_number) (by rfl), cg21⟩ Calls.nil)), consts := fun x d h => (by cases h), blts := HB, gcd := fun h => (by cases h), rais := fun x k fs h => (by cases h), exn := fun x ks h => (by cases h), kc := fun k C h => ⟨HC k C h, fun f hf => (by cases hf)⟩ } cb21
      have p22 : FnOk P w K mg base (L2.CX P w) (2 + i + 1) fa22 (PySem.W.fnOf "_law_odd" "_law_odd" (defArgs t22) (defBody t22) (defScope t22) .none kV22 dc22 pm22 an22 cd22 ct_22) P22 (spD (T 0).g [false, false] P22.length (run (fnL prg i) d__law_odd.body [false, false] N22.length)) := fn_okD (T := T (2 + i)) (F := fnL prg i) (c := ct22) (psn := P22) (ms := [false, false]) D22 sc22 { calls := (Calls.cons ⟨_, fnL_eq (d := d__law_pick) (by rfl), cg15⟩ Calls.nil), consts := fun x d h => (by cases h), blts := HB, gcd := fun h => (by cases h), rais := fun x k fs h => (by cases h), exn := fun x ks h => (by cases h), kc := fun k C h => ⟨HC k C h, fun f hf => (by cases hf)⟩ } cb22
      have p23 : FnOk P w K mg base (L2.CX P w) (2 + i + 1) fa23 (PySem.W.fnOf "_law_changed" "_law_changed" (defArgs t23) (defBody t23) (defScope t23) .none kV23 dc23 pm23 an23 cd23 ct_23) P23 (spD (T 0).g [false, false, false, false] P23.length (run (fnL prg i) d__law_changed.body [false, false, false, false] N23.length)) := fn_okD (T := T (2 + i)) (F := fnL prg i) (c := ct23) (psn := P23) (ms := [false, false, false, false]) D23 sc23 { calls := (Calls.cons ⟨_, fnL_eq (d := Lb.d__law_draw) (by rfl), cg12⟩ (Calls.cons ⟨_, fnL_eq (d := d__law_odd) (by rfl), cg22⟩ (Calls.cons ⟨_, fnL_eq (d := d__law_pick) (by rfl), cg15⟩ (Calls.cons ⟨_, fnL_eq (d := d__law_changed) (by rfl), cg23⟩ Calls.nil)))), consts := fun x d h => (by cases h), blts := HB, gcd := fun h => (by cases h), rais := fun x k fs h => (by cases h), exn := fun x ks h => (by cases h), kc := fun k C h => ⟨HC k C h, fun f hf => (by cases hf)⟩ } cb23
      have p24 : FnOk P w K mg base (L2.CX P w) (2 + i + 1) fa24 (PySem.W.fnOf "_law_told" "_law_told" (defArgs t24) (defBody t24) (defScope t24) .none kV24 dc24 pm24 an24 cd24 ct_24) P24 (spD (T 0).g [false, false] P24.length (run (fnL prg i) d__law_told.body [false, false] N24.length)) := fn_okD (T := T (2 + i)) (F := fnL prg i) (c := ct24) (psn := P24) (ms := [false, false]) D24 sc24 { calls := (Calls.cons ⟨_, fnL_eq (d := d_check_saying) (by rfl), cg24⟩ Calls.nil), consts := fun x d h => (by cases h), blts := HB, gcd := fun h => (by cases h), rais := fun x k fs h => (by cases h), exn := HE24 (2 + i), kc := fun k C h => ⟨HC k C h, fun f hf => HF k C h f (by simp only [ct24] at hf; revert hf; simp (config := { contextual := true }))⟩ } cb24
      exact ⟨p0, p1, p2, p3, p4, p5, p6, p7, p8, p9, p10, p11, p12, p13, p14, p15, p16, p17, p18, p19, p20, p21, p22, p23, p24⟩
  obtain ⟨o0, o1, o2, o3, o4, o5, o6, o7, o8, o9, o10, o11, o12, o13, o14, o15, o16, o17, o18, o19, o20, o21, o22, o23, o24⟩ := OG 59
  have cg11 : CallGood ({ T (2 + 59) with gd := true } : Tb) ⟨"_law_same", 2, [], [false, false]⟩ (fun as s => dfn prg d__law_same 59 (d__law_same.arr 2 [] as) s) := callGood (T := ({ T (2 + 59) with gd := true } : Tb)) (n := 2) (ms := [false, false]) (dds := []) (k := 2 + 59) (Nat.le_refl _) (PySem.W.mg_of X G a12) k12 B11 V11 (fun w => by repeat constructor) rfl rfl (by decide) o12
  have cg12 : CallGood ({ T (2 + 59) with gd := true } : Tb) ⟨"_law_draw", 2, [], [false, false]⟩ (fun as s => dfn prg Lb.d__law_draw 59 (Lb.d__law_draw.arr 2 [] as) s) := callGood (T := ({ T (2 + 59) with gd := true } : Tb)) (n := 2) (ms := [false, false]) (dds := []) (k := 2 + 59) (Nat.le_refl _) (PySem.W.mg_of X G a11) k11 B12 V12 (fun w => by repeat constructor) rfl rfl (by decide) o11
  have cg13 : CallGood ({ T (2 + 59) with gd := true } : Tb) ⟨"_law_listed", 1, [], [false]⟩ (fun as s => dfn prg d__law_listed 59 (d__law_listed.arr 1 [] as) s) := callGood (T := ({ T (2 + 59) with gd := true } : Tb)) (n := 1) (ms := [false]) (dds := []) (k := 2 + 59) (Nat.le_refl _) (PySem.W.mg_of X G a14) k14 B13 V13 (fun w => by repeat constructor) rfl rfl (by decide) o14
  have cg15 : CallGood ({ T (2 + 59) with gd := true } : Tb) ⟨"_law_pick", 2, [], [false, false]⟩ (fun as s => dfn prg d__law_pick 59 (d__law_pick.arr 2 [] as) s) := callGood (T := ({ T (2 + 59) with gd := true } : Tb)) (n := 2) (ms := [false, false]) (dds := []) (k := 2 + 59) (Nat.le_refl _) (PySem.W.mg_of X G a13) k13 B15 V15 (fun w => by repeat constructor) rfl rfl (by decide) o13
  have cg17 : CallGood ({ T (2 + 59) with gd := true } : Tb) ⟨"_law_saying", 3, [], [false, false, false]⟩ (fun as s => dfn prg d__law_saying 59 (d__law_saying.arr 3 [] as) s) := callGood (T := ({ T (2 + 59) with gd := true } : Tb)) (n := 3) (ms := [false, false, false]) (dds := []) (k := 2 + 59) (Nat.le_refl _) (PySem.W.mg_of X G a17) k17 B17 V17 (fun w => by repeat constructor) rfl rfl (by decide) o17
  have cg19 : CallGood ({ T (2 + 59) with gd := true } : Tb) ⟨"_law_fault", 3, [], [false, false, false]⟩ (fun as s => dfn prg d__law_fault 59 (d__law_fault.arr 3 [] as) s) := callGood (T := ({ T (2 + 59) with gd := true } : Tb)) (n := 3) (ms := [false, false, false]) (dds := []) (k := 2 + 59) (Nat.le_refl _) (PySem.W.mg_of X G a20) k20 B19 V19 (fun w => by repeat constructor) rfl rfl (by decide) o20
  have cg23 : CallGood ({ T (2 + 59) with gd := true } : Tb) ⟨"_law_changed", 4, [], [false, false, false, false]⟩ (fun as s => dfn prg d__law_changed 59 (d__law_changed.arr 4 [] as) s) := callGood (T := ({ T (2 + 59) with gd := true } : Tb)) (n := 4) (ms := [false, false, false, false]) (dds := []) (k := 2 + 59) (Nat.le_refl _) (PySem.W.mg_of X G a23) k23 B23 V23 (fun w => by repeat constructor) rfl rfl (by decide) o23
  have cg25 : CallGood ({ T (2 + 59) with gd := true } : Tb) ⟨"_law_open", 1, [], [false]⟩ (fun as s => dfn prg Lb.d__law_open 59 (Lb.d__law_open.arr 1 [] as) s) := callGood (T := ({ T (2 + 59) with gd := true } : Tb)) (n := 1) (ms := [false]) (dds := []) (k := 2 + 59) (Nat.le_refl _) (PySem.W.mg_of X G a10) k10 B25 V25 (fun w => by repeat constructor) rfl rfl (by decide) o10
  have cg26 : CallGood ({ T (2 + 59) with gd := true } : Tb) ⟨"_law_told", 2, [], [false, false]⟩ (fun as s => dfn prg d__law_told 59 (d__law_told.arr 2 [] as) s) := callGood (T := ({ T (2 + 59) with gd := true } : Tb)) (n := 2) (ms := [false, false]) (dds := []) (k := 2 + 59) (Nat.le_refl _) (PySem.W.mg_of X G a24) k24 B26 V26 (fun w => by repeat constructor) rfl rfl (by decide) o24
  have pl : LawG P w K mg base fa25 (spD (T 0).g [false] 1 (run (fnL prg 59) d_law.body [false] N25.length)) := law_okG (T := ({ T (2 + 59) with gd := true } : Tb)) (F := fnL prg 59) (c := ct25) D25 sc25 { calls := (Calls.cons ⟨_, fnL_eq (d := Lb.d__law_open) (by rfl), cg25⟩ (Calls.cons ⟨_, fnL_eq (d := Lb.d__law_draw) (by rfl), cg12⟩ (Calls.cons ⟨_, fnL_eq (d := d__law_saying) (by rfl), cg17⟩ (Calls.cons ⟨_, fnL_eq (d := d__law_fault) (by rfl), cg19⟩ (Calls.cons ⟨_, fnL_eq (d := d__law_told) (by rfl), cg26⟩ (Calls.cons ⟨_, fnL_eq (d := d__law_changed) (by rfl), cg23⟩ (Calls.cons ⟨_, fnL_eq (d := d__law_listed) (by rfl), cg13⟩ (Calls.cons ⟨_, fnL_eq (d := d__law_same) (by rfl), cg11⟩ (Calls.cons ⟨_, fnL_eq (d := d__law_pick) (by rfl), cg15⟩ Calls.nil))))))))), consts := fun x d h => (by cases h), blts := HB, rep := fun _ => rfl, gcd := fun h => (by cases h), rais := fun x k fs h => (by cases h), exn := fun x ks h => (by cases h), kc := fun k C h => ⟨HC k C h, fun f hf => (by cases hf)⟩ } cb25 (show Room 62 callerA from ⟨rfl, by decide, by decide⟩) fun s v => BindsTo.of_eq rfl
  exact pl.imp fun vs H Q E z => z _ _
end K49

namespace Lb
open PySem PySem.Spec PyProof.Rows L2 Z
/-! loops by an invariant -/
theorem lp_inv {f : D → En → List D → Fl} (P : Nat → En → List D → Prop) : ∀ (xs : List D) (k : Nat) {ρ : En} {s : List D}, P k ρ s → (∀ i x ρ s, xs[i]? = some x → P (k + i) ρ s → ∃ ρ' s', f x ρ s = .nx ρ' s' ∧ P (k + i + 1) ρ' s') →
    ∃ ρ' s', lpF f xs ρ s = .nx ρ' s' ∧ P (k + xs.length) ρ' s'
  | [], k, ρ, s, h, _ => ⟨ρ, s, rfl, h⟩
  | x :: xs, k, ρ, s, h, hf => by
    obtain ⟨ρ1, s1, e1, h1⟩ := hf 0 x ρ s rfl h
    obtain ⟨ρ2, s2, e2, h2⟩ := lp_inv P xs (k + 1) h1 fun i y ρ s hy hp => by
      obtain ⟨ρ', s', e, q⟩ := hf (i + 1) y ρ s (by simpa using hy) (by rw [show k + (i + 1) = k + 1 + i by omega]; exact hp)
      exact ⟨ρ', s', e, by rw [show k + 1 + i + 1 = k + (i + 1) + 1 by omega]; exact q⟩
    refine ⟨ρ2, s2, ?_, by rw [List.length_cons, show k + (xs.length + 1) = k + 1 + xs.length by omega]; exact h2⟩
    rw [lp_nx e1, e2]
/-- a loop over xs.map a that changes b, and the slot of its target -/
theorem lp_fold {α β : Type} {f : D → En → List D → Fl} {a : α → D} {I : β → Sl → En} {st : β → α → β} {s : List D} : ∀ (xs : List α) (b : β) (z : Sl), (∀ (l : List α) x r, xs = l ++ x :: r → ∀ z, f (a x) (I (l.foldl st b) z) s = .nx (I (st (l.foldl st b) x) (.im (a x))) s) →
    ∃ z', lpF f (xs.map a) (I b z) s = .nx (I (xs.foldl st b) z') s
  | [], b, z, _ => ⟨z, rfl⟩
  | x :: xs, b, z, h => by
    have h1 := h [] x xs rfl z
    obtain ⟨z', e⟩ := lp_fold (I := I) (st := st) (s := s) xs (st b x) (.im (a x)) fun l y r e z => by
      have := h (x :: l) y r (by rw [e]; rfl) z
      simpa using this
    refine ⟨z', ?_⟩
    have h1' : f (a x) (I b z) s = .nx (I (st b x) (.im (a x))) s := h1
    rw [List.map_cons, lp_nx h1']
    exact e
/-- a loop that goes on with the same slots -/
theorem lp_same {α : Type} {f : D → En → List D → Fl} {a : α → D} {I : Sl → En} {s : List D} (xs : List α) (z : Sl) (h : ∀ x ∈ xs, ∀ z, f (a x) (I z) s = .nx (I (.im (a x))) s) : ∃ z', lpF f (xs.map a) (I z) s = .nx (I z') s := by
  obtain ⟨z', e⟩ := lp_fold (β := Unit) (f := f) (a := a) (I := fun _ => I) (st := fun _ _ => ()) (s := s) xs () z fun l x r e z => h x (by rw [e]; simp) z
  exact ⟨z', e⟩
/-! comprehensions -/
theorem goL_map {α : Type} {s : List D} {f : D → List D → OutL} {a b : α → D} : ∀ (xs : List α), (∀ x ∈ xs, ∃ ρ, f (a x) s = .ok [b x] ρ s) → goL f (xs.map a) s = .ok (xs.map b) [] s
  | [], _ => rfl
  | x :: xs, h => by
    obtain ⟨ρ, h1⟩ := h x (List.mem_cons_self ..)
    have h2 := goL_map xs fun y hy => h y (List.mem_cons_of_mem _ hy)
    rw [List.map_cons, goL, h1]
    dsimp only
    rw [h2]
    rfl
theorem goL_flat {α : Type} {s : List D} {f : D → List D → OutL} {a : α → D} {b : α → List D} : ∀ (xs : List α), (∀ x ∈ xs, ∃ ρ, f (a x) s = .ok (b x) ρ s) → goL f (xs.map a) s = .ok (xs.flatMap b) [] s
  | [], _ => rfl
  | x :: xs, h => by
    obtain ⟨ρ, h1⟩ := h x (List.mem_cons_self ..)
    have h2 := goL_flat xs fun y hy => h y (List.mem_cons_of_mem _ hy)
    rw [List.map_cons, goL, h1]
    dsimp only
    rw [h2]
    rfl
/-- one after another, the store changes -/
theorem goL_inv {f : D → List D → OutL} (P : Nat → List D → List D → Prop) : ∀ (xs : List D) (k : Nat) (acc : List D) {s : List D}, P k acc s → (∀ i x acc s, xs[i]? = some x → P (k + i) acc s → ∃ ds ρ s', f x s = .ok ds ρ s' ∧ P (k + i + 1) (acc ++ ds) s') →
    ∃ ds s', goL f xs s = .ok ds [] s' ∧ P (k + xs.length) (acc ++ ds) s'
  | [], k, acc, s, h, _ => ⟨[], s, rfl, by simpa using h⟩
  | x :: xs, k, acc, s, h, hf => by
    obtain ⟨d1, ρ1, s1, e1, h1⟩ := hf 0 x acc s rfl h
    obtain ⟨d2, s2, e2, h2⟩ := goL_inv P xs (k + 1) (acc ++ d1) h1 fun i y ac s hy hp => by
      obtain ⟨ds, ρ, s', e, q⟩ := hf (i + 1) y ac s (by simpa using hy) (by rw [show k + (i + 1) = k + 1 + i by omega]; exact hp)
      exact ⟨ds, ρ, s', e, by rw [show k + 1 + i + 1 = k + (i + 1) + 1 by omega]; exact q⟩
    refine ⟨d1 ++ d2, s2, ?_, by rw [List.length_cons, show k + (xs.length + 1) = k + 1 + xs.length by omega, ← List.append_assoc]; exact h2⟩
    rw [goL, e1]
    dsimp only
    rw [e2]
section
variable {F : Fs} {fz vs vs1 : List Nat} {tg tg1 : Tg} {it it1 : Z.It} {co co1 : Option Ex} {el : Ex} {ρ ρ' : En} {s s' s'' : List D} {x : D} {xs ds : List D} {ρ9 : En}
theorem ev_lc (h : evI F it ρ s = .ok x ρ' s') (hx : itemsOf x = some xs) (hg : goL (lcF F (blkE (Z.frzAt ρ' fz) vs) tg co el) xs s' = .ok ds ρ9 s'') (hc : cap ds.length = true) : ev F (.lc fz vs tg it co el) false ρ s = .ok (.lst ds) (Z.frzAt ρ' fz) s'' := by
  have e0 : ev F (.lc fz vs tg it co el) false ρ s = (evI F it ρ s).bind fun x ρ s => match itemsOf x with
    | some xs =>
      match goL (lcF F (blkE (Z.frzAt ρ fz) vs) tg co el) xs s with
      | .ok ds _ s => if cap ds.length then .ok (.lst ds) (Z.frzAt ρ fz) s else .bad
      | .exc c fs _ s => if cap xs.length then .exc c fs (Z.frzAt ρ fz) s else .bad
      | .bad => .bad
    | none => .bad := rfl
  rw [e0, h, Out.bind_ok, hx]
  dsimp only
  rw [hg]
  exact if_pos hc
theorem ev_lcX {c : Nat} {fs : List (Str × D)} (h : evI F it ρ s = .ok x ρ' s') (hx : itemsOf x = some xs) (hg : goL (lcF F (blkE (Z.frzAt ρ' fz) vs) tg co el) xs s' = .exc c fs ρ9 s'') (hc : cap xs.length = true) : ev F (.lc fz vs tg it co el) false ρ s = .exc c fs (Z.frzAt ρ' fz) s'' := by
  have e0 : ev F (.lc fz vs tg it co el) false ρ s = (evI F it ρ s).bind fun x ρ s => match itemsOf x with
    | some xs =>
      match goL (lcF F (blkE (Z.frzAt ρ fz) vs) tg co el) xs s with
      | .ok ds _ s => if cap ds.length then .ok (.lst ds) (Z.frzAt ρ fz) s else .bad
      | .exc c fs _ s => if cap xs.length then .exc c fs (Z.frzAt ρ fz) s else .bad
      | .bad => .bad
    | none => .bad := rfl
  rw [e0, h, Out.bind_ok, hx]
  dsimp only
  rw [hg]
  exact if_pos hc
theorem ev_lc2 (h : evI F it ρ s = .ok x ρ' s') (hx : itemsOf x = some xs) (hg : goL (lcF2 F (blkE (Z.frzAt ρ' fz) vs) vs1 tg co tg1 it1 co1 el) xs s' = .ok ds ρ9 s'') (hc : cap ds.length = true) : ev F (.lc2 fz vs vs1 tg it co tg1 it1 co1 el) false ρ s = .ok (.lst ds) (Z.frzAt ρ' fz) s'' := by
  have e0 : ev F (.lc2 fz vs vs1 tg it co tg1 it1 co1 el) false ρ s = (evI F it ρ s).bind fun x ρ s => match itemsOf x with
    | some xs =>
      match goL (lcF2 F (blkE (Z.frzAt ρ fz) vs) vs1 tg co tg1 it1 co1 el) xs s with
      | .ok ds _ s => if cap ds.length then .ok (.lst ds) (Z.frzAt ρ fz) s else .bad
      | _ => .bad
    | none => .bad := rfl
  rw [e0, h, Out.bind_ok, hx]
  dsimp only
  rw [hg]
  exact if_pos hc
end
theorem goL_stop {f : D → List D → OutL} {s : List D} {c : Nat} {fs : List (Str × D)} {ρ : En} {w : D} {ys : List D} (hw : f w s = .exc c fs ρ s) : ∀ (xs : List D), (∀ x ∈ xs, ∃ d ρ, f x s = .ok d ρ s) → goL f (xs ++ w :: ys) s = .exc c fs ρ s
  | [], _ => by
    rw [List.nil_append, goL, hw]
  | x :: xs, h => by
    obtain ⟨d, ρ1, h1⟩ := h x (List.mem_cons_self ..)
    have h2 := goL_stop (ys := ys) hw xs fun y hy => h y (List.mem_cons_of_mem _ hy)
    rw [List.cons_append, goL, h1]
    dsimp only
    rw [h2]
theorem bls_map : ∀ (bs : List Bool), blsOf (bs.map D.bl) = some bs
  | [] => rfl
  | b :: bs => by
    show (blsOf (bs.map D.bl)).map _ = _
    rw [bls_map bs]; rfl
theorem ints_map : ∀ (bs : List Int), intsOf (bs.map D.int) = some bs
  | [] => rfl
  | b :: bs => by
    show (intsOf (bs.map D.int)).map _ = _
    rw [ints_map bs]; rfl
theorem strs_map : ∀ (bs : List Str), strsOf (bs.map D.str) = some bs
  | [] => rfl
  | b :: bs => by
    show (strsOf (bs.map D.str)).map _ = _
    rw [strs_map bs]; rfl
theorem atI0 {α : Type} (x : α) (l : List α) : atI (x :: l) 0 = some x := atI_nat (j := 0) rfl
theorem atI1 {α : Type} (x y : α) (l : List α) : atI (x :: y :: l) 1 = some y := atI_nat (j := 1) rfl
theorem atI2 {α : Type} (x y z : α) (l : List α) : atI (x :: y :: z :: l) 2 = some z := atI_nat (j := 2) rfl
theorem atI3 {α : Type} (x y z w : α) (l : List α) : atI (x :: y :: z :: w :: l) 3 = some w := atI_nat (j := 3) rfl
theorem zip1 (x : Str) (d : D) : (List.zip [x] [d]).reverse = [(x, d)] := rfl
theorem log2_of {n k : Nat} (h : n < 2 ^ k) (hk : 0 < k) : n.log2 < k := by
  by_cases h0 : n = 0
  · rw [h0]; simpa using hk
  · exact (Nat.log2_lt h0).mpr h
theorem range_map (lo : Int) (n : Nat) : rangeD lo n = (List.range n).map fun k : Nat => D.int (lo + (k : Int)) := rfl
end Lb

namespace Lb
open PySem PySem.Spec PyProof.Rows L2 Z
/-- data whose kind isinstance tells -/
def pl : D → Bool
  | .scr _ | .mref _ | .obj _ _ => false
  | _ => true
def isI : D → Bool
  | .int _ => true
  | _ => false
def seqD : D → Option (List D)
  | .lst xs => some xs
  | .tup xs => some xs
  | _ => none
/-- a bound: None or an integer -/
def loD : Option Int → D
  | none => .non
  | some n => .int n
def geB (lo : Option Int) (n : Int) : Bool := match lo with
  | none => true
  | some m => decide (m ≤ n)
def leB (hi : Option Int) (n : Int) : Bool := match hi with
  | none => true
  | some m => decide (n ≤ m)
def isSq (d : D) (lo : Int) (hi : Option Int) : Bool := match seqD d with
  | none => false
  | some xs => decide (lo ≤ xs.length) && leB hi xs.length
def isWh (d : D) (lo hi : Option Int) : Bool := match d with
  | .int n => geB lo n && leB hi n
  | _ => false
section
variable {P : Prg} {i : Nat} {s : List D}
theorem is_integer_ok [Has P "is_integer" d_is_integer] (hi : 1 ≤ i) {d : D} (h : pl d = true) : Cl P i ("is_integer", 1, []) [d] s = .ok (.bl (isI d)) s := by
  obtain ⟨i, rfl⟩ : ∃ j, i = j + 1 := ⟨i - 1, by omega⟩
  rw [Cl_eq (d := d_is_integer) (ρ := [.im d]) rfl]
  cases d <;> first | (cases h; done) | simp only [d_is_integer, b_is_integer, ex, exs, ev, evs, evO, evI, fin, Out.bind, Out.bindL, OutL.bind, OutL.bindL, Out.fl, OutL.fl, Fl.seq, Out.get, bindT, bindTs, callO_L, Ou.out_ok, Ou.out_exc, List.getElem?_cons_zero, List.getElem?_cons_succ, List.set_cons_zero, List.set_cons_succ, List.length_cons, List.length_nil, Option.map_some, cmpD, eqS_i, eqS_s, eqS_b, binD, bltD, ixD, truth, isTys, isTy, flatD, isNon, isLst, itemsOf, Nat.zero_add, Nat.reduceAdd, Nat.reduceLT, Nat.reduceLeDiff, if_true, if_false, reduceIte, decide_true, decide_false, Bool.not_true, Bool.not_false, runR, and_self, suF, suB, unX, unX1, List.map_cons, List.map_nil, sliD, partD, isI]
theorem is_sequence_ok [Has P "is_sequence" d_is_sequence] (h0 : 1 ≤ i) {d : D} (h : pl d = true) {lo : Int} {hi : Option Int} : Cl P i ("is_sequence", 3, []) [d, .int lo, loD hi] s = .ok (.bl (isSq d lo hi)) s := by
  obtain ⟨i, rfl⟩ : ∃ j, i = j + 1 := ⟨i - 1, by omega⟩
  rw [Cl_eq (d := d_is_sequence) (ρ := [.im d, .im (.int lo), .im (loD hi)]) rfl]
  have key : ∀ xs : List D, seqD d = some xs → (runR (exs (fnL P i) d_is_sequence.body [.im d, .im (.int lo), .im (loD hi)] s)) = .ok (.bl (isSq d lo hi)) s := fun xs e => by
    have hl : ∀ s, bltD s .len [d] = some (.int xs.length) := fun s => by
      cases d <;> first | (cases e; done) | (cases e; rfl)
    have ht : isTys d [.list, .tuple] = some true := by
      cases d <;> first | (cases e; done) | rfl
    by_cases c : lo ≤ xs.length
    · cases hi with
      | none => simp only [d_is_sequence, b_is_sequence, ex, exs, ev, evs, fin, Out.bind, Out.bindL, OutL.bind, OutL.bindL, Out.fl, Fl.seq, Out.get, List.getElem?_cons_zero, List.getElem?_cons_succ, hl, ht, cmpD, Option.map_some, truth, runR, isSq, e, leB, loD, c, decide_true, isNon, Bool.not_true, Bool.and_true]
      | some m => simp only [d_is_sequence, b_is_sequence, ex, exs, ev, evs, fin, Out.bind, Out.bindL, OutL.bind, OutL.bindL, Out.fl, Fl.seq, Out.get, List.getElem?_cons_zero, List.getElem?_cons_succ, hl, ht, cmpD, Option.map_some, truth, runR, isSq, e, leB, loD, c, decide_true, isNon, Bool.not_true, Bool.true_and]
    · simp only [d_is_sequence, b_is_sequence, ex, exs, ev, evs, fin, Out.bind, Out.bindL, OutL.bind, OutL.bindL, Out.fl, Fl.seq, Out.get, List.getElem?_cons_zero, List.getElem?_cons_succ, hl, ht, cmpD, Option.map_some, truth, runR, isSq, e, c, decide_false, Bool.not_true, Bool.false_and]
  cases d with
  | lst xs => exact key xs rfl
  | tup xs => exact key xs rfl
  | scr _ => cases h
  | mref _ => cases h
  | obj _ _ => cases h
  | _ => simp only [d_is_sequence, b_is_sequence, ex, exs, ev, evs, evO, evI, fin, Out.bind, Out.bindL, OutL.bind, OutL.bindL, Out.fl, OutL.fl, Fl.seq, Out.get, bindT, bindTs, callO_L, Ou.out_ok, Ou.out_exc, List.getElem?_cons_zero, List.getElem?_cons_succ, List.set_cons_zero, List.set_cons_succ, List.length_cons, List.length_nil, Option.map_some, cmpD, eqS_i, eqS_s, eqS_b, binD, bltD, ixD, truth, isTys, isTy, flatD, isNon, isLst, itemsOf, Nat.zero_add, Nat.reduceAdd, Nat.reduceLT, Nat.reduceLeDiff, if_true, if_false, reduceIte, decide_true, decide_false, Bool.not_true, Bool.not_false, runR, and_self, suF, suB, unX, unX1, List.map_cons, List.map_nil, sliD, partD, isSq, seqD]
theorem is_sequence_1 [h : Has P "is_sequence" d_is_sequence] {d : D} : Cl P i ("is_sequence", 1, []) [d] s = Cl P i ("is_sequence", 3, []) [d, .int 0, loD none] s := Cl_arr (d := d_is_sequence) rfl
theorem is_sequence_2 [h : Has P "is_sequence" d_is_sequence] {d e : D} : Cl P i ("is_sequence", 2, []) [d, e] s = Cl P i ("is_sequence", 3, []) [d, e, loD none] s := Cl_arr (d := d_is_sequence) rfl
theorem is_whole_ok [Has P "is_integer" d_is_integer] [Has P "is_whole" d_is_whole] (h0 : 2 ≤ i) {d : D} (h : pl d = true) {lo hi : Option Int} : Cl P i ("is_whole", 3, []) [d, loD lo, loD hi] s = .ok (.bl (isWh d lo hi)) s := by
  obtain ⟨i, rfl⟩ : ∃ j, i = j + 1 := ⟨i - 1, by omega⟩
  rw [Cl_eq (d := d_is_whole) (ρ := [.im d, .im (loD lo), .im (loD hi)]) rfl]
  have h1 := is_integer_ok (P := P) (s := s) (show 1 ≤ i by omega) h
  cases d with
  | int n =>
    cases lo with
    | none =>
      cases hi with
      | none => simp only [d_is_whole, b_is_whole, ex, exs, ev, evs, evO, evI, fin, Out.bind, Out.bindL, OutL.bind, OutL.bindL, Out.fl, OutL.fl, Fl.seq, Out.get, bindT, bindTs, callO_L, Ou.out_ok, Ou.out_exc, List.getElem?_cons_zero, List.getElem?_cons_succ, List.set_cons_zero, List.set_cons_succ, List.length_cons, List.length_nil, Option.map_some, cmpD, eqS_i, eqS_s, eqS_b, binD, bltD, ixD, truth, isTys, isTy, flatD, isNon, isLst, itemsOf, Nat.zero_add, Nat.reduceAdd, Nat.reduceLT, Nat.reduceLeDiff, if_true, if_false, reduceIte, decide_true, decide_false, Bool.not_true, Bool.not_false, runR, and_self, suF, suB, unX, unX1, List.map_cons, List.map_nil, sliD, partD, h1, isI, isWh, loD, geB, leB, Bool.and_self]
      | some b => simp only [d_is_whole, b_is_whole, ex, exs, ev, evs, evO, evI, fin, Out.bind, Out.bindL, OutL.bind, OutL.bindL, Out.fl, OutL.fl, Fl.seq, Out.get, bindT, bindTs, callO_L, Ou.out_ok, Ou.out_exc, List.getElem?_cons_zero, List.getElem?_cons_succ, List.set_cons_zero, List.set_cons_succ, List.length_cons, List.length_nil, Option.map_some, cmpD, eqS_i, eqS_s, eqS_b, binD, bltD, ixD, truth, isTys, isTy, flatD, isNon, isLst, itemsOf, Nat.zero_add, Nat.reduceAdd, Nat.reduceLT, Nat.reduceLeDiff, if_true, if_false, reduceIte, decide_true, decide_false, Bool.not_true, Bool.not_false, runR, and_self, suF, suB, unX, unX1, List.map_cons, List.map_nil, sliD, partD, h1, isI, isWh, loD, geB, leB, Bool.true_and]
    | some a =>
      by_cases c : a ≤ n
      · cases hi with
        | none => simp only [d_is_whole, b_is_whole, ex, exs, ev, evs, evO, evI, fin, Out.bind, Out.bindL, OutL.bind, OutL.bindL, Out.fl, OutL.fl, Fl.seq, Out.get, bindT, bindTs, callO_L, Ou.out_ok, Ou.out_exc, List.getElem?_cons_zero, List.getElem?_cons_succ, List.set_cons_zero, List.set_cons_succ, List.length_cons, List.length_nil, Option.map_some, cmpD, eqS_i, eqS_s, eqS_b, binD, bltD, ixD, truth, isTys, isTy, flatD, isNon, isLst, itemsOf, Nat.zero_add, Nat.reduceAdd, Nat.reduceLT, Nat.reduceLeDiff, if_true, if_false, reduceIte, decide_true, decide_false, Bool.not_true, Bool.not_false, runR, and_self, suF, suB, unX, unX1, List.map_cons, List.map_nil, sliD, partD, h1, isI, isWh, loD, geB, leB, c, Bool.and_self]
        | some b => simp only [d_is_whole, b_is_whole, ex, exs, ev, evs, evO, evI, fin, Out.bind, Out.bindL, OutL.bind, OutL.bindL, Out.fl, OutL.fl, Fl.seq, Out.get, bindT, bindTs, callO_L, Ou.out_ok, Ou.out_exc, List.getElem?_cons_zero, List.getElem?_cons_succ, List.set_cons_zero, List.set_cons_succ, List.length_cons, List.length_nil, Option.map_some, cmpD, eqS_i, eqS_s, eqS_b, binD, bltD, ixD, truth, isTys, isTy, flatD, isNon, isLst, itemsOf, Nat.zero_add, Nat.reduceAdd, Nat.reduceLT, Nat.reduceLeDiff, if_true, if_false, reduceIte, decide_true, decide_false, Bool.not_true, Bool.not_false, runR, and_self, suF, suB, unX, unX1, List.map_cons, List.map_nil, sliD, partD, h1, isI, isWh, loD, geB, leB, c, Bool.true_and]
      · simp only [d_is_whole, b_is_whole, ex, exs, ev, evs, evO, evI, fin, Out.bind, Out.bindL, OutL.bind, OutL.bindL, Out.fl, OutL.fl, Fl.seq, Out.get, bindT, bindTs, callO_L, Ou.out_ok, Ou.out_exc, List.getElem?_cons_zero, List.getElem?_cons_succ, List.set_cons_zero, List.set_cons_succ, List.length_cons, List.length_nil, Option.map_some, cmpD, eqS_i, eqS_s, eqS_b, binD, bltD, ixD, truth, isTys, isTy, flatD, isNon, isLst, itemsOf, Nat.zero_add, Nat.reduceAdd, Nat.reduceLT, Nat.reduceLeDiff, if_true, if_false, reduceIte, decide_true, decide_false, Bool.not_true, Bool.not_false, runR, and_self, suF, suB, unX, unX1, List.map_cons, List.map_nil, sliD, partD, h1, isI, isWh, loD, geB, c, Bool.false_and]
  | scr _ => cases h
  | mref _ => cases h
  | obj _ _ => cases h
  | _ => simp only [d_is_whole, b_is_whole, ex, exs, ev, evs, evO, evI, fin, Out.bind, Out.bindL, OutL.bind, OutL.bindL, Out.fl, OutL.fl, Fl.seq, Out.get, bindT, bindTs, callO_L, Ou.out_ok, Ou.out_exc, List.getElem?_cons_zero, List.getElem?_cons_succ, List.set_cons_zero, List.set_cons_succ, List.length_cons, List.length_nil, Option.map_some, cmpD, eqS_i, eqS_s, eqS_b, binD, bltD, ixD, truth, isTys, isTy, flatD, isNon, isLst, itemsOf, Nat.zero_add, Nat.reduceAdd, Nat.reduceLT, Nat.reduceLeDiff, if_true, if_false, reduceIte, decide_true, decide_false, Bool.not_true, Bool.not_false, runR, and_self, suF, suB, unX, unX1, List.map_cons, List.map_nil, sliD, partD, h1, isI, isWh]
theorem is_whole_1 [h : Has P "is_whole" d_is_whole] {d : D} : Cl P i ("is_whole", 1, []) [d] s = Cl P i ("is_whole", 3, []) [d, loD none, loD none] s := Cl_arr (d := d_is_whole) rfl
theorem is_whole_2 [h : Has P "is_whole" d_is_whole] {d : D} {n : Int} : Cl P i ("is_whole", 2, []) [d, .int n] s = Cl P i ("is_whole", 3, []) [d, loD (some n), loD none] s := Cl_arr (d := d_is_whole) rfl
end
end Lb

namespace Lb
open PySem PySem.Spec PyProof.Rows L2 Z
theorem Cl_run {P : Prg} {x : Str} {d : Df} [h : Has P x d] {i n : Nat} {ks : List Str} {as s : List D} : Cl P (i + 1) (x, n, ks) as s = run (fnL P i) d.body d.ms d.n (d.arr n ks as) s := by
  unfold Z.Cl
  rw [fnL_eq h.h]
  rfl
abbrev WF := Dr.WF
section
variable {P : Prg} {i : Nat} {n m : Int} {d : D}
theorem draw_ok [Has P "_law_draw" d__law_draw] (hi : 1 ≤ i) (h : WF n d) (hn : n ≤ 1000000) (hm : m < 10 ^ 60) : ∃ r d', Cl P i ("_law_draw", 2, []) [.mref 0, .int m] [d] = .ok (.int r) [d'] ∧ WF (n + 1) d' ∧ 0 ≤ r ∧ (r < m ∨ r = 0) := by
  obtain ⟨i, rfl⟩ : ∃ j, i = j + 1 := ⟨i - 1, by omega⟩
  rw [Cl_run (d := d__law_draw)]
  exact Dr.draw_ok (F := fnL P i) (s := [d]) (k := 0) rfl h hn hm
/-- a draw of many, as a natural number -/
theorem draw_nat [Has P "_law_draw" d__law_draw] (hi : 1 ≤ i) {k : Nat} (hk : 1 ≤ k) (h : WF n d) (hn : n ≤ 1000000) (hm : (k : Int) < 10 ^ 60) : ∃ (r : Nat) (d' : D), Cl P i ("_law_draw", 2, []) [.mref 0, .int (k : Int)] [d] = .ok (.int (r : Int)) [d'] ∧ WF (n + 1) d' ∧ r < k := by
  obtain ⟨r, d', e, w, h0, h1⟩ := draw_ok (P := P) hi h hn hm
  obtain ⟨r, rfl⟩ : ∃ n : Nat, r = n := ⟨r.toNat, by omega⟩
  exact ⟨r, d', e, w, by omega⟩
theorem open_ok [Has P "_law_open" d__law_open] (hi : 1 ≤ i) {ns : List Int} : ∃ d, Cl P i ("_law_open", 1, []) [.scr ns] [] = .ok (.mref 0) [d] ∧ WF 0 d := by
  obtain ⟨i, rfl⟩ : ∃ j, i = j + 1 := ⟨i - 1, by omega⟩
  refine ⟨_, ?_, Dr.WF.new ns⟩
  rw [Cl_eq (d := d__law_open) (ρ := [.im (.scr ns)]) rfl]
  simp only [d__law_open, b__law_open, ex, exs, ev, evs, evO, evI, fin, Out.bind, Out.bindL, OutL.bind, OutL.bindL, Out.fl, OutL.fl, Fl.seq, Out.get, bindT, bindTs, callO_L, Ou.out_ok, Ou.out_exc, List.getElem?_cons_zero, List.getElem?_cons_succ, List.set_cons_zero, List.set_cons_succ, List.length_cons, List.length_nil, Option.map_some, cmpD, eqS_i, eqS_s, eqS_b, binD, bltD, ixD, truth, isTys, isTy, flatD, isNon, isLst, itemsOf, Nat.zero_add, Nat.reduceAdd, Nat.reduceLT, Nat.reduceLeDiff, if_true, if_false, reduceIte, decide_true, decide_false, Bool.not_true, Bool.not_false, runR, and_self, suF, suB, unX, unX1, List.map_cons, List.map_nil, sliD, partD, cap, List.nil_append]
end
end Lb

namespace Lb
open PySem PySem.Spec PyProof.Rows L2 Z
/-- data that == compares, at most so many deep; truth values only where b -/
def okE (b : Bool) : Nat → D → Bool
  | _, .non => true
  | _, .int _ => true
  | _, .bl _ => b
  | _, .str x => PyData.strOk x
  | k + 1, .tup xs => xs.all (okE b k)
  | k + 1, .lst xs => xs.all (okE b k)
  | _, _ => false
theorem okE_py {b : Bool} : ∀ {k : Nat} {d : D}, okE b k d = true → ∃ x, py d = some x ∧ x.canLay0 = true ∧ x.depth ≤ k := by
  intro k
  induction k with
  | zero =>
    intro d h
    cases d with
    | non => exact ⟨_, rfl, rfl, by simp [PyData.depth]⟩
    | int i => exact ⟨_, rfl, rfl, by simp [PyData.depth]⟩
    | bl i => exact ⟨_, rfl, rfl, by simp [PyData.depth]⟩
    | str x => exact ⟨_, rfl, by simpa [PyData.canLay0, okE] using h, by simp [PyData.depth]⟩
    | _ => cases h
  | succ k ih =>
    have key : ∀ xs : List D, xs.all (okE b k) = true → ∃ ys, pys xs = some ys ∧ PyData.canLayAll0 ys = true ∧ PyData.depthAll ys ≤ k := by
      intro xs
      induction xs with
      | nil => intro _; exact ⟨[], rfl, rfl, by simp [PyData.depthAll]⟩
      | cons x xs ihx =>
        intro h
        rw [List.all_cons, Bool.and_eq_true] at h
        obtain ⟨y, e1, e2, e3⟩ := ih h.1
        obtain ⟨ys, f1, f2, f3⟩ := ihx h.2
        refine ⟨y :: ys, by simp [pys, e1, f1], by simp [PyData.canLayAll0, e2, f2], ?_⟩
        simp only [PyData.depthAll]
        omega
    intro d h
    cases d with
    | non => exact ⟨_, rfl, rfl, by simp [PyData.depth]⟩
    | int i => exact ⟨_, rfl, rfl, by simp [PyData.depth]⟩
    | bl i => exact ⟨_, rfl, rfl, by simp [PyData.depth]⟩
    | str x => exact ⟨_, rfl, by simpa [PyData.canLay0, okE] using h, by simp [PyData.depth]⟩
    | tup xs =>
      obtain ⟨ys, f1, f2, f3⟩ := key xs h
      exact ⟨.tuple ys, by simp [py, f1], by simpa [PyData.canLay0] using f2, by simp only [PyData.depth]; omega⟩
    | lst xs =>
      obtain ⟨ys, f1, f2, f3⟩ := key xs h
      exact ⟨.list ys, by simp [py, f1], by simpa [PyData.canLay0] using f2, by simp only [PyData.depth]; omega⟩
    | _ => cases h
theorem eqS_D {a b : D} {x y : PyData} (ha : py a = some x) (hb : py b = some y) (h1 : SeqAt.shaped x = true) (h2 : SeqAt.shaped y = true) : eqS a b = some (PyData.eqv x y) := by
  have key : eqD a b = some (PyData.eqv x y) := by
    unfold eqD
    rw [ha, hb]
    dsimp only
    rw [h1, h2]
    rfl
  cases a <;> cases b <;> first
    | exact key
    | (cases ha; cases hb; simp only [eqS, PyData.eqv]; rfl)
theorem okE_shaped {b : Bool} {k : Nat} {d : D} (h : okE b k d = true) (hk : k ≤ 64) : ∃ x, py d = some x ∧ SeqAt.shaped x = true ∧ x.canLay0 = true := by
  obtain ⟨x, e1, e2, e3⟩ := okE_py h
  exact ⟨x, e1, by unfold SeqAt.shaped; rw [e2, decide_eq_true (by omega)]; rfl, e2⟩
theorem eq_refl {b : Bool} {k : Nat} {d : D} (h : okE b k d = true) (hk : k ≤ 64) : eqS d d = some true := by
  obtain ⟨x, e1, e2, e3⟩ := okE_shaped h hk
  rw [eqS_D e1 e1 e2 e2, SeqAt.eqv_refl x e3]
theorem okE_inj : ∀ {k : Nat} {a b : D} {x y : PyData}, okE false k a = true → okE false k b = true → py a = some x → py b = some y → PyData.eqv x y = true → a = b := by
  intro k
  induction k with
  | zero =>
    intro a b x y ha hb hx hy h
    cases a <;> first | (cases ha; done) | skip
    all_goals (cases b <;> first | (cases hb; done) | skip)
    all_goals (simp only [py, Option.some.injEq] at hx hy; subst hx; subst hy)
    all_goals (first | rfl | (simp [PyData.eqv] at h; done) | (simp [PyData.eqv] at h; rw [h]))
  | succ k ih =>
    have key : ∀ xs ys : List D, xs.all (okE false k) = true → ys.all (okE false k) = true → ∀ zs ws, pys xs = some zs → pys ys = some ws → PyData.eqvAll zs ws = true → xs = ys := by
      intro xs
      induction xs with
      | nil =>
        intro ys _ _ zs ws h1 h2 h3
        cases h1
        cases ys with
        | nil => rfl
        | cons y ys =>
          unfold pys at h2
          split at h2
          · cases h2; simp [PyData.eqvAll] at h3
          · cases h2
      | cons x xs ihx =>
        intro ys hx hy zs ws h1 h2 h3
        rw [List.all_cons, Bool.and_eq_true] at hx
        unfold pys at h1
        split at h1
        · rename_i a b ea eb
          cases h1
          cases ys with
          | nil => cases h2; simp [PyData.eqvAll] at h3
          | cons y ys =>
            rw [List.all_cons, Bool.and_eq_true] at hy
            unfold pys at h2
            split at h2
            · rename_i c d ec ed
              cases h2
              simp only [PyData.eqvAll, Bool.and_eq_true] at h3
              rw [ih hx.1 hy.1 ea ec h3.1, ihx ys hx.2 hy.2 b d eb ed h3.2]
            · cases h2
        · cases h1
    intro a b x y ha hb hx hy h
    cases a with
    | tup xs =>
      cases b with
      | tup ys =>
        unfold py at hx hy
        obtain ⟨zs, e1, rfl⟩ := Option.map_eq_some_iff.mp hx
        obtain ⟨ws, e2, rfl⟩ := Option.map_eq_some_iff.mp hy
        rw [key xs ys ha hb zs ws e1 e2 (by simpa [PyData.eqv] using h)]
      | lst ys =>
        unfold py at hx hy
        obtain ⟨zs, e1, rfl⟩ := Option.map_eq_some_iff.mp hx
        obtain ⟨ws, e2, rfl⟩ := Option.map_eq_some_iff.mp hy
        simp [PyData.eqv] at h
      | _ =>
        first
          | (cases hb; done)
          | (unfold py at hx; obtain ⟨zs, e1, rfl⟩ := Option.map_eq_some_iff.mp hx; simp only [py, Option.some.injEq] at hy; subst hy; simp [PyData.eqv] at h)
    | lst xs =>
      cases b with
      | lst ys =>
        unfold py at hx hy
        obtain ⟨zs, e1, rfl⟩ := Option.map_eq_some_iff.mp hx
        obtain ⟨ws, e2, rfl⟩ := Option.map_eq_some_iff.mp hy
        rw [key xs ys ha hb zs ws e1 e2 (by simpa [PyData.eqv] using h)]
      | tup ys =>
        unfold py at hx hy
        obtain ⟨zs, e1, rfl⟩ := Option.map_eq_some_iff.mp hx
        obtain ⟨ws, e2, rfl⟩ := Option.map_eq_some_iff.mp hy
        simp [PyData.eqv] at h
      | _ =>
        first
          | (cases hb; done)
          | (unfold py at hx; obtain ⟨zs, e1, rfl⟩ := Option.map_eq_some_iff.mp hx; simp only [py, Option.some.injEq] at hy; subst hy; simp [PyData.eqv] at h)
    | _ =>
      first
        | (cases ha; done)
        | skip
      all_goals (cases b <;> first | (cases hb; done) | skip)
      all_goals (simp only [py, Option.some.injEq] at hx; subst hx)
      all_goals (first
        | (simp only [py, Option.some.injEq] at hy; subst hy; first | rfl | (simp [PyData.eqv] at h; done) | (simp [PyData.eqv] at h; rw [h]))
        | (unfold py at hy; obtain ⟨zs, e1, rfl⟩ := Option.map_eq_some_iff.mp hy; simp [PyData.eqv] at h))
theorem eq_ne {k : Nat} {a b : D} (h1 : okE false k a = true) (h2 : okE false k b = true) (hk : k ≤ 64) (h : a ≠ b) : eqS a b = some false := by
  obtain ⟨x, e1, e2, e3⟩ := okE_shaped h1 hk
  obtain ⟨y, f1, f2, f3⟩ := okE_shaped h2 hk
  rw [eqS_D e1 f1 e2 f2]
  cases q : PyData.eqv x y with
  | false => rfl
  | true => exact absurd (okE_inj h1 h2 e1 f1 q) h
end Lb

namespace K49
open PySem PySem.Spec PyProof.Rows L2 Z Lb
/-! the data: sayings and what becomes of them -/
def wds : List Str := ["most", "same", "not", "and", "or", ""]
/-- at most so many deep; l: lists in the place of tuples, else tuples -/
def tp (l : Bool) : Nat → D → Bool
  | _, .non => true
  | _, .bl _ => true
  | _, .int i => decide (i.natAbs ≤ 1000000)
  | _, .str z => wds.contains z
  | k + 1, .tup xs => !l && (xs.all (tp l k) && decide (xs.length ≤ 50000))
  | k + 1, .lst xs => l && (xs.all (tp l k) && decide (xs.length ≤ 50000))
  | _, _ => false
theorem tp_pl {l : Bool} {k : Nat} {d : D} (h : tp l k d = true) : pl d = true := by
  cases d <;> first | rfl | (cases k <;> cases h)
theorem wd_ok {z : Str} (h : wds.contains z = true) : z = "most" ∨ z = "same" ∨ z = "not" ∨ z = "and" ∨ z = "or" ∨ z = "" := by
  simpa [wds] using h
theorem tp_okE {l : Bool} : ∀ {k : Nat} {d : D}, tp l k d = true → okE true k d = true := by
  intro k
  induction k with
  | zero =>
    intro d h
    cases d with
    | str z =>
      have hz : wds.contains z = true := h
      rcases wd_ok hz with rfl | rfl | rfl | rfl | rfl | rfl <;> decide +kernel
    | non => rfl
    | bl _ => rfl
    | int _ => rfl
    | _ => cases h
  | succ k ih =>
    intro d h
    cases d with
    | str z =>
      have hz : wds.contains z = true := h
      rcases wd_ok hz with rfl | rfl | rfl | rfl | rfl | rfl <;> (show PyData.strOk _ = true; decide +kernel)
    | non => rfl
    | bl _ => rfl
    | int _ => rfl
    | tup xs =>
      unfold tp at h
      simp only [Bool.and_eq_true, List.all_eq_true] at h
      show xs.all (okE true k) = true
      rw [List.all_eq_true]
      exact fun x hx => ih (h.2.1 x hx)
    | lst xs =>
      unfold tp at h
      simp only [Bool.and_eq_true, List.all_eq_true] at h
      show xs.all (okE true k) = true
      rw [List.all_eq_true]
      exact fun x hx => ih (h.2.1 x hx)
    | _ => cases h
theorem tp_items {l : Bool} {k : Nat} {d : D} {xs : List D} (h : tp l k d = true) (e : seqD d = some xs) : ∃ j, k = j + 1 ∧ xs.length ≤ 50000 ∧ ∀ x ∈ xs, tp l j x = true := by
  cases k with
  | zero => cases d <;> first | (cases e; done) | (cases h; done)
  | succ j =>
    refine ⟨j, rfl, ?_⟩
    cases d <;> first
      | (cases e; done)
      | (cases e
         unfold tp at h
         simp only [Bool.and_eq_true, List.all_eq_true, decide_eq_true_eq] at h
         exact ⟨h.2.2, h.2.1⟩)
/-- is one of these words -/
def isOne (ws : List Str) : D → Bool
  | .str z => ws.contains z
  | _ => false
theorem py_strs (ws : List Str) : pys (ws.map D.str) = some (ws.map PyData.str) := by
  induction ws with
  | nil => rfl
  | cons w ws ih => simp only [List.map_cons, pys, py, ih]
theorem mem_lst {l : Bool} {k : Nat} {d : D} (h : tp l k d = true) (hk : k ≤ 60) (ws : List Str) (hw : SeqAt.shaped (.list (ws.map PyData.str)) = true) : memD d (.lst (ws.map D.str)) = some (isOne ws d) := by
  obtain ⟨x, e1, e2, e3⟩ := okE_shaped (tp_okE h) (by omega)
  unfold memD
  dsimp only
  rw [e1, py_strs]
  dsimp only
  rw [e2, hw]
  simp only [Bool.and_self, if_true, Option.some.injEq, List.any_map]
  have no : ∀ (f : Str → Bool), (∀ w, f w = false) → ws.any f = false := fun f hf => by
    rw [List.any_eq_false]
    intro w _
    rw [hf w]; exact Bool.false_ne_true
  cases d with
  | str z =>
    cases e1
    show _ = ws.contains z
    have ev1 : ∀ w : Str, PyData.eqv (.str w) (.str z) = decide (w = z) := fun w => by simp only [PyData.eqv]; rfl
    have ev2 : ((fun y => PyData.eqv y (.str z)) ∘ PyData.str) = fun w => decide (w = z) := funext ev1
    rw [ev2, Bool.eq_iff_iff, List.any_eq_true, List.contains_iff_mem]
    constructor
    · intro ⟨w, h1, h2⟩
      rw [← of_decide_eq_true h2]; exact h1
    · intro h1
      exact ⟨z, h1, decide_eq_true rfl⟩
  | non => cases e1; exact no _ fun w => by simp [PyData.eqv]
  | bl _ => cases e1; exact no _ fun w => by simp [PyData.eqv]
  | int _ => cases e1; exact no _ fun w => by simp [PyData.eqv]
  | tup xs =>
    unfold py at e1
    obtain ⟨ys, _, rfl⟩ := Option.map_eq_some_iff.mp e1
    exact no _ fun w => by simp [PyData.eqv]
  | lst xs =>
    unfold py at e1
    obtain ⟨ys, _, rfl⟩ := Option.map_eq_some_iff.mp e1
    exact no _ fun w => by simp [PyData.eqv]
  | _ => cases e1
section
variable {i : Nat} {s : List D}
theorem is_row_ok (hi : 1 ≤ i) {d : D} (h : pl d = true) {lo up : Int} : Z.Cl prg i ("_law_is_row", 3, []) [d, .int lo, .int up] s = .ok (.bl (isSq d lo (some up))) s := by
  obtain ⟨i, rfl⟩ : ∃ j, i = j + 1 := ⟨i - 1, by omega⟩
  rw [Cl_eq (d := d__law_is_row) (ρ := [.im d, .im (.int lo), .im (.int up)]) rfl]
  have key : ∀ xs : List D, seqD d = some xs → runR (exs (fnL prg i) d__law_is_row.body [.im d, .im (.int lo), .im (.int up)] s) = .ok (.bl (isSq d lo (some up))) s := fun xs e => by
    have hl : ∀ s, bltD s .len [d] = some (.int xs.length) := fun s => by
      cases d <;> first | (cases e; done) | (cases e; rfl)
    have ht : isTys d [.list, .tuple] = some true := by
      cases d <;> first | (cases e; done) | rfl
    by_cases c : lo ≤ xs.length
    · simp only [d__law_is_row, b__law_is_row, ex, exs, ev, evs, Z.fin, Out.bind, Out.bindL, OutL.bind, OutL.bindL, Out.fl, Fl.seq, Out.get, List.getElem?_cons_zero, List.getElem?_cons_succ, hl, ht, cmpD, Option.map_some, truth, runR, isSq, e, leB, c, decide_true, Bool.true_and]
    · simp only [d__law_is_row, b__law_is_row, ex, exs, ev, evs, Z.fin, Out.bind, Out.bindL, OutL.bind, OutL.bindL, Out.fl, Fl.seq, Out.get, List.getElem?_cons_zero, List.getElem?_cons_succ, hl, ht, cmpD, Option.map_some, truth, runR, isSq, e, leB, c, decide_false, Bool.false_and]
  cases d with
  | lst xs => exact key xs rfl
  | tup xs => exact key xs rfl
  | scr _ => cases h
  | mref _ => cases h
  | obj _ _ => cases h
  | _ => simp only [d__law_is_row, b__law_is_row, ex, exs, ev, evs, evO, evI, fin, Out.bind, Out.bindL, OutL.bind, OutL.bindL, Out.fl, OutL.fl, Fl.seq, Out.get, bindT, bindTs, callO_L, Ou.out_ok, Ou.out_exc, List.getElem?_cons_zero, List.getElem?_cons_succ, List.set_cons_zero, List.set_cons_succ, List.length_cons, List.length_nil, Option.map_some, cmpD, eqS_i, eqS_s, eqS_b, binD, bltD, ixD, truth, isTys, isTy, flatD, isNon, isLst, itemsOf, Nat.zero_add, Nat.reduceAdd, Nat.reduceLT, Nat.reduceLeDiff, if_true, if_false, reduceIte, decide_true, decide_false, Bool.not_true, Bool.not_false, runR, and_self, suF, suB, unX, unX1, List.map_cons, List.map_nil, sliD, partD, isSq, seqD]
theorem is_number_ok (hi : 1 ≤ i) {d : D} (h : pl d = true) {lo up : Int} : Z.Cl prg i ("_law_is_number", 3, []) [d, .int lo, .int up] s = .ok (.bl (isWh d (some lo) (some up))) s := by
  obtain ⟨i, rfl⟩ : ∃ j, i = j + 1 := ⟨i - 1, by omega⟩
  rw [Cl_eq (d := d__law_is_number) (ρ := [.im d, .im (.int lo), .im (.int up)]) rfl]
  cases d with
  | int n =>
    by_cases c : lo ≤ n
    · simp only [d__law_is_number, b__law_is_number, ex, exs, ev, evs, evO, evI, fin, Out.bind, Out.bindL, OutL.bind, OutL.bindL, Out.fl, OutL.fl, Fl.seq, Out.get, bindT, bindTs, callO_L, Ou.out_ok, Ou.out_exc, List.getElem?_cons_zero, List.getElem?_cons_succ, List.set_cons_zero, List.set_cons_succ, List.length_cons, List.length_nil, Option.map_some, cmpD, eqS_i, eqS_s, eqS_b, binD, bltD, ixD, truth, isTys, isTy, flatD, isNon, isLst, itemsOf, Nat.zero_add, Nat.reduceAdd, Nat.reduceLT, Nat.reduceLeDiff, if_true, if_false, reduceIte, decide_true, decide_false, Bool.not_true, Bool.not_false, runR, and_self, suF, suB, unX, unX1, List.map_cons, List.map_nil, sliD, partD, isWh, geB, leB, c, Bool.true_and]
    · simp only [d__law_is_number, b__law_is_number, ex, exs, ev, evs, evO, evI, fin, Out.bind, Out.bindL, OutL.bind, OutL.bindL, Out.fl, OutL.fl, Fl.seq, Out.get, bindT, bindTs, callO_L, Ou.out_ok, Ou.out_exc, List.getElem?_cons_zero, List.getElem?_cons_succ, List.set_cons_zero, List.set_cons_succ, List.length_cons, List.length_nil, Option.map_some, cmpD, eqS_i, eqS_s, eqS_b, binD, bltD, ixD, truth, isTys, isTy, flatD, isNon, isLst, itemsOf, Nat.zero_add, Nat.reduceAdd, Nat.reduceLT, Nat.reduceLeDiff, if_true, if_false, reduceIte, decide_true, decide_false, Bool.not_true, Bool.not_false, runR, and_self, suF, suB, unX, unX1, List.map_cons, List.map_nil, sliD, partD, isWh, geB, leB, c, Bool.false_and]
  | scr _ => cases h
  | mref _ => cases h
  | obj _ _ => cases h
  | _ => simp only [d__law_is_number, b__law_is_number, ex, exs, ev, evs, evO, evI, fin, Out.bind, Out.bindL, OutL.bind, OutL.bindL, Out.fl, OutL.fl, Fl.seq, Out.get, bindT, bindTs, callO_L, Ou.out_ok, Ou.out_exc, List.getElem?_cons_zero, List.getElem?_cons_succ, List.set_cons_zero, List.set_cons_succ, List.length_cons, List.length_nil, Option.map_some, cmpD, eqS_i, eqS_s, eqS_b, binD, bltD, ixD, truth, isTys, isTy, flatD, isNon, isLst, itemsOf, Nat.zero_add, Nat.reduceAdd, Nat.reduceLT, Nat.reduceLeDiff, if_true, if_false, reduceIte, decide_true, decide_false, Bool.not_true, Bool.not_false, runR, and_self, suF, suB, unX, unX1, List.map_cons, List.map_nil, sliD, partD, isWh]
def isCo (d : D) : Bool := isSq d 2 (some 2)
theorem is_couple_ok (hi : 1 ≤ i) {d : D} (h : pl d = true) : Z.Cl prg i ("is_couple", 1, []) [d] s = .ok (.bl (isCo d)) s := by
  obtain ⟨i, rfl⟩ : ∃ j, i = j + 1 := ⟨i - 1, by omega⟩
  rw [Cl_eq (d := d_is_couple) (ρ := [.im d]) rfl]
  have key : ∀ xs : List D, seqD d = some xs → runR (exs (fnL prg i) d_is_couple.body [.im d] s) = .ok (.bl (isCo d)) s := fun xs e => by
    have hl : ∀ s, bltD s .len [d] = some (.int xs.length) := fun s => by
      cases d <;> first | (cases e; done) | (cases e; rfl)
    have ht : isTys d [.list, .tuple] = some true := by
      cases d <;> first | (cases e; done) | rfl
    have e2 : isCo d = decide ((xs.length : Int) = 2) := by
      unfold isCo isSq
      rw [e]
      dsimp only [leB]
      rw [← Bool.decide_and, decide_eq_decide]
      omega
    simp only [d_is_couple, b_is_couple, ex, exs, ev, evs, Z.fin, Out.bind, Out.bindL, OutL.bind, OutL.bindL, Out.fl, Fl.seq, Out.get, List.getElem?_cons_zero, List.getElem?_cons_succ, hl, ht, cmpD, eqS_i, Option.map_some, truth, runR, e2]
  cases d with
  | lst xs => exact key xs rfl
  | tup xs => exact key xs rfl
  | scr _ => cases h
  | mref _ => cases h
  | obj _ _ => cases h
  | _ => simp only [d_is_couple, b_is_couple, ex, exs, ev, evs, evO, evI, fin, Out.bind, Out.bindL, OutL.bind, OutL.bindL, Out.fl, OutL.fl, Fl.seq, Out.get, bindT, bindTs, callO_L, Ou.out_ok, Ou.out_exc, List.getElem?_cons_zero, List.getElem?_cons_succ, List.set_cons_zero, List.set_cons_succ, List.length_cons, List.length_nil, Option.map_some, cmpD, eqS_i, eqS_s, eqS_b, binD, bltD, ixD, truth, isTys, isTy, flatD, isNon, isLst, itemsOf, Nat.zero_add, Nat.reduceAdd, Nat.reduceLT, Nat.reduceLeDiff, if_true, if_false, reduceIte, decide_true, decide_false, Bool.not_true, Bool.not_false, runR, and_self, suF, suB, unX, unX1, List.map_cons, List.map_nil, sliD, partD, isCo, isSq, seqD]
end
end K49

namespace K49
open PySem PySem.Spec PyProof.Rows L2 Z Lb
/-! the first fault of a saying -/
def firstF (g : D → Option Str) : List D → Option Str
  | [] => none
  | x :: xs => match g x with
    | some z => some z
    | none => firstF g xs
def oD : Option Str → D
  | none => .non
  | some z => .str z
def isZ : D → Bool
  | .int n => decide (n = 0)
  | _ => false
def termF (w : Int) (d : D) : Option Str := match seqD d with
  | some [f, x] => if (isWh f (some (-999)) (some 999) && !isZ f) = true then (if isWh x (some (-1)) (some (w - 1)) = true then none else some "word") else some "factor"
  | _ => none
def cmpF (w : Int) (ts num : D) : Option Str := match seqD ts with
  | some xs => if (isSq ts 1 (some 5) && xs.all isCo) = true then (match firstF (termF w) xs with
    | some z => some z
    | none => if isWh num (some (-999999)) (some 999999) = true then none else some "number") else some "terms"
  | none => some "terms"
def stp (w : Int) (deep : Option (D → Option Str)) (d : D) : Option Str := match seqD d with
  | some [.str z, inner] => if isOne ["not", "and", "or"] (.str z) = true then (match deep with
    | none => some "deep"
    | some g => if z = "not" then g inner else match seqD inner with
      | some ps => if isSq inner 1 (some 4) = true then firstF g ps else some "saying"
      | none => some "saying") else some "saying"
  | some [.str z, ts, num] => if isOne ["most", "same"] (.str z) = true then cmpF w ts num else some "saying"
  | _ => some "saying"
def faultF (w : Int) : Nat → D → Option Str
  | 0 => stp w none
  | r + 1 => stp w (some (faultF w r))
/-! loops that end at the first fault -/
def Stops (o : Fl) : Prop := (∃ d s, o = .rt d s) ∨ ∃ c fs ρ s, o = .exc c fs ρ s
section
variable {f : D → En → List D → Fl} {g : D → Option Str} {P : En → Prop} {E : Str → En → Fl} {s : List D}
theorem lp_none : ∀ {xs : List D} {ρ : En}, firstF g xs = none → P ρ → (∀ x ∈ xs, ∀ ρ, P ρ → g x = none → ∃ ρ', f x ρ s = .nx ρ' s ∧ P ρ') → ∃ ρ', lpF f xs ρ s = .nx ρ' s ∧ P ρ'
  | [], ρ, _, h, _ => ⟨ρ, rfl, h⟩
  | x :: xs, ρ, h, hp, hf => by
    unfold firstF at h
    cases q : g x with
    | some z => rw [q] at h; cases h
    | none =>
      rw [q] at h
      obtain ⟨ρ1, e1, h1⟩ := hf x (by simp) ρ hp q
      obtain ⟨ρ2, e2, h2⟩ := lp_none (xs := xs) h h1 fun y hy => hf y (by simp [hy])
      exact ⟨ρ2, by rw [lp_nx e1, e2], h2⟩
theorem lp_some (hE : ∀ z ρ, Stops (E z ρ)) : ∀ {xs : List D} {ρ : En} {z : Str}, firstF g xs = some z → P ρ → (∀ x ∈ xs, ∀ ρ, P ρ → g x = none → ∃ ρ', f x ρ s = .nx ρ' s ∧ P ρ') → (∀ x ∈ xs, ∀ ρ z, P ρ → g x = some z → ∃ ρ', f x ρ s = E z ρ') → ∃ ρ', lpF f xs ρ s = E z ρ'
  | [], ρ, z, h, _, _, _ => by cases h
  | x :: xs, ρ, z, h, hp, hf, hg => by
    unfold firstF at h
    cases q : g x with
    | some y =>
      rw [q] at h
      have h : y = z := Option.some.inj h
      subst h
      obtain ⟨ρ', e⟩ := hg x (by simp) ρ y hp q
      refine ⟨ρ', ?_⟩
      unfold lpF
      rw [e]
      rcases hE y ρ' with ⟨d, s', z⟩ | ⟨c, fs, ρ2, s', z⟩ <;> rw [z]
    | none =>
      rw [q] at h
      obtain ⟨ρ1, e1, h1⟩ := hf x (by simp) ρ hp q
      obtain ⟨ρ2, e2⟩ := lp_some hE (xs := xs) h h1 (fun y hy => hf y (by simp [hy])) fun y hy => hg y (by simp [hy])
      exact ⟨ρ2, by rw [lp_nx e1, e2]⟩
end
theorem firstF_none {g : D → Option Str} : ∀ {xs : List D}, firstF g xs = none ↔ ∀ x ∈ xs, g x = none
  | [] => by simp [firstF]
  | x :: xs => by
    unfold firstF
    cases q : g x with
    | some z => simp [q]
    | none => simp [q, firstF_none (xs := xs)]
theorem firstF_some {g : D → Option Str} {z : Str} : ∀ {xs : List D}, firstF g xs = some z → ∃ x ∈ xs, g x = some z
  | [], h => by cases h
  | x :: xs, h => by
    unfold firstF at h
    cases q : g x with
    | some y => rw [q] at h; cases h; exact ⟨x, by simp, q⟩
    | none =>
      rw [q] at h
      obtain ⟨y, h1, h2⟩ := firstF_some (xs := xs) h
      exact ⟨y, by simp [h1], h2⟩
section
variable {i : Nat} {s : List D} {l : Bool} {k : Nat} {w : Int}
theorem ixQ {d : D} {xs : List D} (h : seqD d = some xs) (n : Int) : ixD s d (.int n) = atI xs n := by cases d <;> first | (cases h; done) | (cases h; rfl)
theorem it_seq {w : D} {xs : List D} (h : seqD w = some xs) : itemsOf w = some xs := by cases w <;> first | (cases h; rfl) | cases h
theorem isSq_none {d : D} (h : seqD d = none) (lo : Int) (hi : Option Int) : isSq d lo hi = false := by unfold isSq; rw [h]
theorem co_two {d : D} (h : isCo d = true) : ∃ f x, seqD d = some [f, x] := by
  unfold isCo isSq at h
  cases q : seqD d with
  | none => rw [q] at h; cases h
  | some xs =>
    rw [q] at h
    simp only [leB, Bool.and_eq_true, decide_eq_true_eq] at h
    match xs, h with
    | [f, x], _ => exact ⟨f, x, rfl⟩
    | [], h => exact absurd h.1 (by simp)
    | [_], h => exact absurd h.1 (by simp)
    | _ :: _ :: _ :: _, h => simp at h; omega
theorem num_int {d : D} {lo up : Option Int} (h : isWh d lo up = true) : ∃ n, d = .int n := by
  cases d <;> first | (cases h; done) | exact ⟨_, rfl⟩
def g1 (d : D) : Option Str := if isCo d = true then none else some "terms"
theorem g1_none {d : D} (h : g1 d = none) : isCo d = true := by
  unfold g1 at h
  split at h
  · assumption
  · cases h
theorem g1_some {d : D} {y : Str} (h : g1 d = some y) : isCo d = false ∧ y = "terms" := by
  unfold g1 at h
  split at h
  · cases h
  · rename_i c
    cases h
    exact ⟨by simpa using c, rfl⟩
def b1 : List Stm := [.ife (.nt (.call ("_law_is_row", 3, []) [false, false, false] [(.v 2), (.c (.int 2)), (.c (.int 2))])) [.ret (.c (.str "terms"))] []]
def b2 : List Stm := [
    .ife (.orr (.nt (.call ("_law_is_number", 3, []) [false, false, false] [(.ix (.bv 2) (.c (.int 0))), (.neg (.c (.int 999))), (.c (.int 999))])) (.cmp .eq (.ix (.bv 2) (.c (.int 0))) (.c (.int 0)))) [
      .ret (.c (.str "factor"))] [],
    .ife (.nt (.call ("_law_is_number", 3, []) [false, false, false] [(.ix (.bv 2) (.c (.int 1))), (.neg (.c (.int 1))), (.bin .sub (.bv 0) (.c (.int 1)))])) [
      .ret (.c (.str "word"))] []]
abbrev itT : Z.It := .seq (.ix (.bv 1) (.c (.int 1)))
theorem t2_turn (hi : 1 ≤ i) {d x : D} {z : Sl} (hx : isCo x = true) (hp : tp l k x = true) : exs (fnL prg i) b2 [.im (.int w), .im d, .im x] s = match termF w x with | none => .nx [.im (.int w), .im d, .im x] s | some y => .rt (.str y) s := by
  obtain ⟨f, y, e⟩ := co_two hx
  obtain ⟨j, _, _, hm⟩ := tp_items hp e
  have n1 := is_number_ok (i := i) (s := s) hi (tp_pl (hm f (by simp))) (lo := -999) (up := 999)
  have n2 := is_number_ok (i := i) (s := s) hi (tp_pl (hm y (by simp))) (lo := -1) (up := w - 1)
  have x0 : ∀ s, ixD s x (.int 0) = some f := fun s => by rw [ixQ e]; exact atI0 _ _
  have x1 : ∀ s, ixD s x (.int 1) = some y := fun s => by rw [ixQ e]; exact atI1 _ _ _
  unfold termF
  rw [e]
  dsimp only
  cases q1 : isWh f (some (-999)) (some 999) with
  | false =>
    rw [q1] at n1
    simp only [b2, ex, exs, ev, evs, evO, evI, fin, Out.bind, Out.bindL, OutL.bind, OutL.bindL, Out.fl, OutL.fl, Fl.seq, Out.get, bindT, bindTs, callO_L, Ou.out_ok, Ou.out_exc, List.getElem?_cons_zero, List.getElem?_cons_succ, List.set_cons_zero, List.set_cons_succ, List.length_cons, List.length_nil, Option.map_some, cmpD, eqS_i, eqS_s, eqS_b, binD, bltD, truth, isTys, isTy, flatD, isNon, isLst, itemsOf, Nat.zero_add, Nat.reduceAdd, Nat.reduceLT, Nat.reduceLeDiff, if_true, if_false, reduceIte, decide_true, decide_false, Bool.not_true, Bool.not_false, runR, and_self, suF, suB, unX, unX1, List.map_cons, List.map_nil, sliD, partD, x0, n1, Bool.false_and, Bool.false_eq_true]
  | true =>
    obtain ⟨n, rfl⟩ := num_int q1
    rw [q1] at n1
    by_cases c : n = 0
    · subst c
      simp only [b2, ex, exs, ev, evs, evO, evI, fin, Out.bind, Out.bindL, OutL.bind, OutL.bindL, Out.fl, OutL.fl, Fl.seq, Out.get, bindT, bindTs, callO_L, Ou.out_ok, Ou.out_exc, List.getElem?_cons_zero, List.getElem?_cons_succ, List.set_cons_zero, List.set_cons_succ, List.length_cons, List.length_nil, Option.map_some, cmpD, eqS_i, eqS_s, eqS_b, binD, bltD, truth, isTys, isTy, flatD, isNon, isLst, itemsOf, Nat.zero_add, Nat.reduceAdd, Nat.reduceLT, Nat.reduceLeDiff, if_true, if_false, reduceIte, decide_true, decide_false, Bool.not_true, Bool.not_false, runR, and_self, suF, suB, unX, unX1, List.map_cons, List.map_nil, sliD, partD, x0, n1, isZ, Bool.and_false, Bool.false_eq_true, decide_true]
    · cases q2 : isWh y (some (-1)) (some (w - 1)) with
      | false =>
        rw [q2] at n2
        simp only [b2, ex, exs, ev, evs, evO, evI, fin, Out.bind, Out.bindL, OutL.bind, OutL.bindL, Out.fl, OutL.fl, Fl.seq, Out.get, bindT, bindTs, callO_L, Ou.out_ok, Ou.out_exc, List.getElem?_cons_zero, List.getElem?_cons_succ, List.set_cons_zero, List.set_cons_succ, List.length_cons, List.length_nil, Option.map_some, cmpD, eqS_i, eqS_s, eqS_b, binD, bltD, truth, isTys, isTy, flatD, isNon, isLst, itemsOf, Nat.zero_add, Nat.reduceAdd, Nat.reduceLT, Nat.reduceLeDiff, if_true, if_false, reduceIte, decide_true, decide_false, Bool.not_true, Bool.not_false, runR, and_self, suF, suB, unX, unX1, List.map_cons, List.map_nil, sliD, partD, x0, x1, n1, n2, isZ, c, decide_false, Bool.not_false, Bool.and_self, Bool.false_eq_true]
      | true =>
        rw [q2] at n2
        simp only [b2, ex, exs, ev, evs, evO, evI, fin, Out.bind, Out.bindL, OutL.bind, OutL.bindL, Out.fl, OutL.fl, Fl.seq, Out.get, bindT, bindTs, callO_L, Ou.out_ok, Ou.out_exc, List.getElem?_cons_zero, List.getElem?_cons_succ, List.set_cons_zero, List.set_cons_succ, List.length_cons, List.length_nil, Option.map_some, cmpD, eqS_i, eqS_s, eqS_b, binD, bltD, truth, isTys, isTy, flatD, isNon, isLst, itemsOf, Nat.zero_add, Nat.reduceAdd, Nat.reduceLT, Nat.reduceLeDiff, if_true, if_false, reduceIte, decide_true, decide_false, Bool.not_true, Bool.not_false, runR, and_self, suF, suB, unX, unX1, List.map_cons, List.map_nil, sliD, partD, x0, x1, n1, n2, isZ, c, decide_false, Bool.not_false, Bool.and_self]
theorem cmpfault_ok (hi : 2 ≤ i) {d ts num : D} {z : Str} (hd : seqD d = some [.str z, ts, num]) (h1 : tp l k ts = true) (h2 : pl num = true) : Z.Cl prg i ("_law_comparison_fault", 2, []) [.int w, d] s = .ok (oD (cmpF w ts num)) s := by
  obtain ⟨i, rfl⟩ : ∃ j, i = j + 1 := ⟨i - 1, by omega⟩
  have x1 : ∀ s, ixD s d (.int 1) = some ts := fun s => by rw [ixQ hd]; exact atI1 _ _ _
  have x2 : ∀ s, ixD s d (.int 2) = some num := fun s => by rw [ixQ hd]; exact atI2 _ _ _ _
  have r1 := is_row_ok (i := i) (s := s) (by omega) (tp_pl h1) (lo := 1) (up := 5)
  have n1 := is_number_ok (i := i) (s := s) (by omega) h2 (lo := -999999) (up := 999999)
  rw [Cl_eq (d := d__law_comparison_fault) (ρ := [.im (.int w), .im d, .un]) rfl]
  have no : isSq ts 1 (some 5) = false → runR (exs (fnL prg i) d__law_comparison_fault.body [.im (.int w), .im d, .un] s) = .ok (.str "terms") s := fun q => by
    rw [q] at r1
    simp only [d__law_comparison_fault, b__law_comparison_fault, ex, exs, ev, evs, evO, evI, fin, Out.bind, Out.bindL, OutL.bind, OutL.bindL, Out.fl, OutL.fl, Fl.seq, Out.get, bindT, bindTs, callO_L, Ou.out_ok, Ou.out_exc, List.getElem?_cons_zero, List.getElem?_cons_succ, List.set_cons_zero, List.set_cons_succ, List.length_cons, List.length_nil, Option.map_some, cmpD, eqS_i, eqS_s, eqS_b, binD, bltD, truth, isTys, isTy, flatD, isNon, isLst, itemsOf, Nat.zero_add, Nat.reduceAdd, Nat.reduceLT, Nat.reduceLeDiff, if_true, if_false, reduceIte, decide_true, decide_false, Bool.not_true, Bool.not_false, runR, and_self, suF, suB, unX, unX1, List.map_cons, List.map_nil, sliD, partD, x1, r1]
  unfold cmpF
  cases q : seqD ts with
  | none => exact no (isSq_none q _ _)
  | some xs =>
    dsimp only
    cases q2 : isSq ts 1 (some 5) with
    | false =>
      rw [no q2]
      rfl
    | true =>
      rw [q2] at r1
      obtain ⟨j, _, _, hm⟩ := tp_items h1 q
      have eb : d__law_comparison_fault.body = [.ife (.nt (.call ("_law_is_row", 3, []) [false, false, false] [(.ix (.bv 1) (.c (.int 1))), (.c (.int 1)), (.c (.int 5))])) [.ret (.c (.str "terms"))] [], .for (.nm 2) itT b1, .for (.nm 2) itT b2, .ret (.ife (.call ("_law_is_number", 3, []) [false, false, false] [(.ix (.bv 1) (.c (.int 2))), (.neg (.c (.int 999999))), (.c (.int 999999))]) (.c .non) (.c (.str "number")))] := rfl
      have hit : ∀ z : Sl, evI (fnL prg i) itT [.im (.int w), .im d, z] s = .ok ts [.im (.int w), .im d, z] s := fun z => by simp only [itT, ex, exs, ev, evs, evO, evI, fin, Out.bind, Out.bindL, OutL.bind, OutL.bindL, Out.fl, OutL.fl, Fl.seq, Out.get, bindT, bindTs, callO_L, Ou.out_ok, Ou.out_exc, List.getElem?_cons_zero, List.getElem?_cons_succ, List.set_cons_zero, List.set_cons_succ, List.length_cons, List.length_nil, Option.map_some, cmpD, eqS_i, eqS_s, eqS_b, binD, bltD, truth, isTys, isTy, flatD, isNon, isLst, itemsOf, Nat.zero_add, Nat.reduceAdd, Nat.reduceLT, Nat.reduceLeDiff, if_true, if_false, reduceIte, decide_true, decide_false, Bool.not_true, Bool.not_false, runR, and_self, suF, suB, unX, unX1, List.map_cons, List.map_nil, sliD, partD, x1]
      rw [eb, sq_nx (ρ' := [.im (.int w), .im d, .un]) (s' := s) (by simp only [ex, exs, ev, evs, evO, evI, fin, Out.bind, Out.bindL, OutL.bind, OutL.bindL, Out.fl, OutL.fl, Fl.seq, Out.get, bindT, bindTs, callO_L, Ou.out_ok, Ou.out_exc, List.getElem?_cons_zero, List.getElem?_cons_succ, List.set_cons_zero, List.set_cons_succ, List.length_cons, List.length_nil, Option.map_some, cmpD, eqS_i, eqS_s, eqS_b, binD, bltD, truth, isTys, isTy, flatD, isNon, isLst, itemsOf, Nat.zero_add, Nat.reduceAdd, Nat.reduceLT, Nat.reduceLeDiff, if_true, if_false, reduceIte, decide_true, decide_false, Bool.not_true, Bool.not_false, runR, and_self, suF, suB, unX, unX1, List.map_cons, List.map_nil, sliD, partD, x1, r1])]
      have t1 : ∀ x ∈ xs, ∀ z, lpB (fnL prg i) (.nm 2) b1 x [.im (.int w), .im d, z] s = if isCo x = true then .nx [.im (.int w), .im d, .im x] s else .rt (.str "terms") s := fun x hx z => by
        have r2 := is_row_ok (i := i) (s := s) (by omega) (tp_pl (hm x hx)) (lo := 2) (up := 2)
        rw [lpB_eq (ρ' := [.im (.int w), .im d, .im x]) rfl]
        have r2 : Z.Cl prg i ("_law_is_row", 3, []) [x, .int 2, .int 2] s = .ok (.bl (isCo x)) s := r2
        cases q3 : isCo x with
        | true => rw [q3] at r2; simp only [b1, ex, exs, ev, evs, evO, evI, fin, Out.bind, Out.bindL, OutL.bind, OutL.bindL, Out.fl, OutL.fl, Fl.seq, Out.get, bindT, bindTs, callO_L, Ou.out_ok, Ou.out_exc, List.getElem?_cons_zero, List.getElem?_cons_succ, List.set_cons_zero, List.set_cons_succ, List.length_cons, List.length_nil, Option.map_some, cmpD, eqS_i, eqS_s, eqS_b, binD, bltD, truth, isTys, isTy, flatD, isNon, isLst, itemsOf, Nat.zero_add, Nat.reduceAdd, Nat.reduceLT, Nat.reduceLeDiff, if_true, if_false, reduceIte, decide_true, decide_false, Bool.not_true, Bool.not_false, runR, and_self, suF, suB, unX, unX1, List.map_cons, List.map_nil, sliD, partD, r2]
        | false => rw [q3] at r2; simp only [b1, ex, exs, ev, evs, evO, evI, fin, Out.bind, Out.bindL, OutL.bind, OutL.bindL, Out.fl, OutL.fl, Fl.seq, Out.get, bindT, bindTs, callO_L, Ou.out_ok, Ou.out_exc, List.getElem?_cons_zero, List.getElem?_cons_succ, List.set_cons_zero, List.set_cons_succ, List.length_cons, List.length_nil, Option.map_some, cmpD, eqS_i, eqS_s, eqS_b, binD, bltD, truth, isTys, isTy, flatD, isNon, isLst, itemsOf, Nat.zero_add, Nat.reduceAdd, Nat.reduceLT, Nat.reduceLeDiff, if_true, if_false, reduceIte, decide_true, decide_false, Bool.not_true, Bool.not_false, runR, and_self, suF, suB, unX, unX1, List.map_cons, List.map_nil, sliD, partD, r2, Bool.false_eq_true]
      cases q4 : firstF g1 xs with
      | some y =>
        obtain ⟨x, hx, hy⟩ := firstF_some q4
        have hy2 := g1_some hy
        have e5 : xs.all isCo = false := by
          rw [List.all_eq_false]
          exact ⟨x, hx, by rw [hy2.1]; exact Bool.false_ne_true⟩
        obtain ⟨ρ', e⟩ := lp_some (f := lpB (fnL prg i) (.nm 2) b1) (g := g1) (P := fun ρ => ∃ z, ρ = [.im (.int w), .im d, z]) (E := fun y _ => .rt (.str y) s) (s := s) (fun z ρ => .inl ⟨_, _, rfl⟩) q4 ⟨.un, rfl⟩ (fun x hx ρ ⟨z, e⟩ hg => ⟨[.im (.int w), .im d, .im x], (by
          subst e
          rw [t1 x hx z, if_pos (g1_none hg)]), _, rfl⟩) fun x hx ρ y ⟨z, e⟩ hg => ⟨ρ, by
          subst e
          obtain ⟨c1, c2⟩ := g1_some hg
          rw [t1 x hx z, c1, c2, if_neg Bool.false_ne_true]⟩
        rw [sq_rt ((ex_for (hit .un) (it_seq q)).trans e), hy2.2, e5]
        rfl
      | none =>
        have hall := firstF_none.mp q4
        have e5 : xs.all isCo = true := by
          rw [List.all_eq_true]
          intro x hx
          exact g1_none (hall x hx)
        obtain ⟨ρ', e, z3, e3⟩ := lp_none (f := lpB (fnL prg i) (.nm 2) b1) (g := g1) (P := fun ρ => ∃ z, ρ = [.im (.int w), .im d, z]) (s := s) q4 ⟨.un, rfl⟩ fun x hx ρ ⟨z, e⟩ hg => ⟨[.im (.int w), .im d, .im x], by
          subst e
          rw [t1 x hx z, if_pos (List.all_eq_true.mp e5 x hx)], _, rfl⟩
        subst e3
        rw [sq_nx ((ex_for (hit .un) (it_seq q)).trans e), e5]
        have t2 : ∀ x ∈ xs, ∀ z, lpB (fnL prg i) (.nm 2) b2 x [.im (.int w), .im d, z] s = match termF w x with | none => .nx [.im (.int w), .im d, .im x] s | some y => .rt (.str y) s := fun x hx z => by
          rw [lpB_eq (ρ' := [.im (.int w), .im d, .im x]) rfl]
          exact t2_turn (z := z) (by omega) (List.all_eq_true.mp e5 x hx) (hm x hx)
        cases q6 : firstF (termF w) xs with
        | some y =>
          obtain ⟨ρ', e⟩ := lp_some (f := lpB (fnL prg i) (.nm 2) b2) (g := termF w) (P := fun ρ => ∃ z, ρ = [.im (.int w), .im d, z]) (E := fun y _ => .rt (.str y) s) (s := s) (fun z ρ => .inl ⟨_, _, rfl⟩) q6 ⟨z3, rfl⟩ (fun x hx ρ ⟨z, e⟩ hg => ⟨[.im (.int w), .im d, .im x], by
            subst e
            rw [t2 x hx z, hg], _, rfl⟩) fun x hx ρ y ⟨z, e⟩ hg => ⟨ρ, by
            subst e
            rw [t2 x hx z, hg]⟩
          rw [sq_rt ((ex_for (hit z3) (it_seq q)).trans e)]
          rfl
        | none =>
          obtain ⟨ρ', e, z4, e4⟩ := lp_none (f := lpB (fnL prg i) (.nm 2) b2) (g := termF w) (P := fun ρ => ∃ z, ρ = [.im (.int w), .im d, z]) (s := s) q6 ⟨z3, rfl⟩ fun x hx ρ ⟨z, e⟩ hg => ⟨[.im (.int w), .im d, .im x], by
            subst e
            rw [t2 x hx z, hg], _, rfl⟩
          subst e4
          rw [sq_nx ((ex_for (hit z3) (it_seq q)).trans e)]
          cases q7 : isWh num (some (-999999)) (some 999999) with
          | true =>
            rw [q7] at n1
            simp only [ex, exs, ev, evs, evO, evI, fin, Out.bind, Out.bindL, OutL.bind, OutL.bindL, Out.fl, OutL.fl, Fl.seq, Out.get, bindT, bindTs, callO_L, Ou.out_ok, Ou.out_exc, List.getElem?_cons_zero, List.getElem?_cons_succ, List.set_cons_zero, List.set_cons_succ, List.length_cons, List.length_nil, Option.map_some, cmpD, eqS_i, eqS_s, eqS_b, binD, bltD, truth, isTys, isTy, flatD, isNon, isLst, itemsOf, Nat.zero_add, Nat.reduceAdd, Nat.reduceLT, Nat.reduceLeDiff, if_true, if_false, reduceIte, decide_true, decide_false, Bool.not_true, Bool.not_false, runR, and_self, suF, suB, unX, unX1, List.map_cons, List.map_nil, sliD, partD, x2, n1, oD, Bool.and_self]
          | false =>
            rw [q7] at n1
            simp only [ex, exs, ev, evs, evO, evI, fin, Out.bind, Out.bindL, OutL.bind, OutL.bindL, Out.fl, OutL.fl, Fl.seq, Out.get, bindT, bindTs, callO_L, Ou.out_ok, Ou.out_exc, List.getElem?_cons_zero, List.getElem?_cons_succ, List.set_cons_zero, List.set_cons_succ, List.length_cons, List.length_nil, Option.map_some, cmpD, eqS_i, eqS_s, eqS_b, binD, bltD, truth, isTys, isTy, flatD, isNon, isLst, itemsOf, Nat.zero_add, Nat.reduceAdd, Nat.reduceLT, Nat.reduceLeDiff, if_true, if_false, reduceIte, decide_true, decide_false, Bool.not_true, Bool.not_false, runR, and_self, suF, suB, unX, unX1, List.map_cons, List.map_nil, sliD, partD, x2, n1, oD, Bool.and_self, Bool.false_eq_true]
end
end K49

namespace K49
open PySem PySem.Spec PyProof.Rows L2 Z Lb
def ws5 : List Str := ["most", "same", "not", "and", "or"]
theorem sh5 : SeqAt.shaped (.list (ws5.map PyData.str)) = true := by decide +kernel
/-- how a saying may begin -/
theorem head_cases {l : Bool} {k : Nat} {a : D} (h : tp l k a = true) (hk : k ≤ 60) : (memD a (.lst (ws5.map D.str)) = some false ∧ isOne ["not", "and", "or"] a = false ∧ isOne ["most", "same"] a = false) ∨ ∃ z, a = .str z ∧ memD a (.lst (ws5.map D.str)) = some true ∧ (z = "most" ∨ z = "same" ∨ z = "not" ∨ z = "and" ∨ z = "or") := by
  have m := mem_lst h hk ws5 sh5
  cases q : isOne ws5 a with
  | false =>
    rw [q] at m
    refine .inl ⟨m, ?_, ?_⟩
    · cases a <;> first | rfl | skip
      have h2 : ws5.contains _ = false := q
      show List.contains _ _ = false
      simp [ws5] at h2 ⊢
      exact ⟨h2.2.2.1, h2.2.2.2.1, h2.2.2.2.2⟩
    · cases a <;> first | rfl | skip
      have h2 : ws5.contains _ = false := q
      show List.contains _ _ = false
      simp [ws5] at h2 ⊢
      exact ⟨h2.1, h2.2.1⟩
  | true =>
    rw [q] at m
    cases a with
    | str z =>
      have h2 : ws5.contains z = true := q
      exact .inr ⟨z, rfl, m, by simpa [ws5] using h2⟩
    | _ => cases q
section
variable {i : Nat} {s : List D} {l : Bool} {k : Nat} {w : Int}
theorem stp_none {deep : Option (D → Option Str)} {d : D} (h : seqD d = none) : stp w deep d = some ("saying" : Str) := by unfold stp; rw [h]
theorem stp_len {deep : Option (D → Option Str)} {d : D} {xs : List D} (h : seqD d = some xs) (hl : isSq d 2 (some 3) = false) : stp w deep d = some ("saying" : Str) := by
  unfold isSq at hl
  unfold stp
  rw [h] at hl ⊢
  match xs, hl with
  | [], _ => rfl
  | [_], _ => split <;> first | rfl | (rename_i e; cases e)
  | [_, _], hl => exact absurd hl (by simp [leB])
  | [_, _, _], hl => exact absurd hl (by simp [leB])
  | _ :: _ :: _ :: _ :: _, _ => split <;> first | rfl | (rename_i e; cases e)
theorem stp_head {deep : Option (D → Option Str)} {d a : D} {xs : List D} (h : seqD d = some (a :: xs)) (h1 : isOne ["not", "and", "or"] a = false) (h2 : isOne ["most", "same"] a = false) : stp w deep d = some ("saying" : Str) := by
  unfold stp
  rw [h]
  split
  · rename_i z inner e
    cases e
    rw [h1]; rfl
  · rename_i z ts num e
    cases e
    rw [h2]; rfl
  · rfl
abbrev c5 : Ex := .lst [(.c (.str "most")), (.c (.str "same")), (.c (.str "not")), (.c (.str "and")), (.c (.str "or"))]
abbrev c2 : Ex := .lst [(.c (.str "most")), (.c (.str "same"))]
def fB : List Stm := [.asg (.nm 4) (.call ("_law_fault", 3, []) [false, false, false] [(.v 0), (.v 3), (.bin .add (.bv 2) (.c (.int 1)))]), .ife (.cmp .notN (.bv 4) (.c .non)) [.ret (.v 4)] []]
def f7 : List Stm := [.for (.nm 3) (.seq (.ix (.bv 1) (.c (.int 1)))) fB, .ret (.c .non)]
def f4 : List Stm := [
  .ife (.cmp .eq (.bv 2) (.c (.int 4))) [.ret (.c (.str "deep"))] [],
  .ife (.cmp .eq (.ix (.bv 1) (.c (.int 0))) (.c (.str "not"))) [.ret (.call ("_law_fault", 3, []) [false, false, false] [(.v 0), (.ix (.bv 1) (.c (.int 1))), (.bin .add (.bv 2) (.c (.int 1)))])] [],
  .ife (.nt (.call ("_law_is_row", 3, []) [false, false, false] [(.ix (.bv 1) (.c (.int 1))), (.c (.int 1)), (.c (.int 4))])) [.ret (.c (.str "saying"))] []] ++ f7
theorem isSq_some {d : D} {xs : List D} (h : seqD d = some xs) (lo : Int) (hi : Option Int) : isSq d lo hi = (decide (lo ≤ xs.length) && leB hi xs.length) := by unfold isSq; rw [h]
theorem len_seq {d : D} {xs : List D} (h : seqD d = some xs) (s : List D) : bltD s .len [d] = some (.int xs.length) := by cases d <;> first | (cases h; done) | (cases h; rfl)
/-- after the head: not, and, or -/
theorem f4_ok {r : Nat} (hr : r ≤ 3) {j : Nat} {d inner : D} {z : Str} (hi : 1 ≤ i) (hd : seqD d = some [.str z, inner]) (ht : tp l j inner = true) (hz : z = "not" ∨ z = "and" ∨ z = "or") (deep : Option (D → Option Str)) (h0 : r = 0 ↔ deep = none)
    (hg : ∀ g, deep = some g → ∀ (j : Nat) (x : D), tp l j x = true → j ≤ 60 → Z.Cl prg i ("_law_fault", 3, []) [.int w, x, .int (4 - (r : Int) + 1)] s = .ok (oD (g x)) s) (hj : j ≤ 60) :
    runR (exs (fnL prg i) f4 [.im (.int w), .im d, .im (.int (4 - (r : Int))), .un, .un] s) = .ok (oD (stp w deep d)) s := by
  have x0 : ∀ s, ixD s d (.int 0) = some (.str z) := fun s => by rw [ixQ hd]; exact atI0 _ _
  have x1 : ∀ s, ixD s d (.int 1) = some inner := fun s => by rw [ixQ hd]; exact atI1 _ _ _
  have hone : isOne ["not", "and", "or"] (.str z) = true := by rcases hz with rfl | rfl | rfl <;> decide +kernel
  have es : stp w deep d = match deep with
    | none => some ("deep" : Str)
    | some g => if z = "not" then g inner else match seqD inner with
      | some ps => if isSq inner 1 (some 4) = true then firstF g ps else some ("saying" : Str)
      | none => some ("saying" : Str) := by
    unfold stp
    rw [hd]
    dsimp only
    rw [if_pos hone]
    cases deep <;> rfl
  rw [es]
  cases deep with
  | none =>
    have hr0 : r = 0 := h0.mpr rfl
    subst hr0
    simp only [f4, List.cons_append, List.nil_append, ex, exs, ev, evs, evO, evI, fin, Out.bind, Out.bindL, OutL.bind, OutL.bindL, Out.fl, OutL.fl, Fl.seq, Out.get, bindT, bindTs, callO_L, Ou.out_ok, Ou.out_exc, List.getElem?_cons_zero, List.getElem?_cons_succ, List.set_cons_zero, List.set_cons_succ, List.length_cons, List.length_nil, Option.map_some, cmpD, eqS_i, eqS_s, eqS_b, binD, bltD, truth, isTys, isTy, flatD, isNon, isLst, itemsOf, Nat.zero_add, Nat.reduceAdd, Nat.reduceLT, Nat.reduceLeDiff, if_true, if_false, reduceIte, decide_true, decide_false, Bool.not_true, Bool.not_false, runR, and_self, suF, suB, unX, unX1, List.map_cons, List.map_nil, sliD, partD, Int.natCast_zero, Int.sub_zero, Int.ofNat_zero, show ((0 : Nat) : Int) = 0 from rfl, show (4 : Int) - 0 = 4 from rfl, oD]
  | some g =>
    have hr0 : r ≠ 0 := fun e => by cases h0.mp e
    have n4 : ¬ (4 - (r : Int)) = 4 := by omega
    dsimp only
    by_cases c : z = "not"
    · subst c
      have e1 := hg g rfl j inner ht hj
      rw [if_pos rfl]
      simp only [f4, List.cons_append, List.nil_append, ex, exs, ev, evs, evO, evI, fin, Out.bind, Out.bindL, OutL.bind, OutL.bindL, Out.fl, OutL.fl, Fl.seq, Out.get, bindT, bindTs, callO_L, Ou.out_ok, Ou.out_exc, List.getElem?_cons_zero, List.getElem?_cons_succ, List.set_cons_zero, List.set_cons_succ, List.length_cons, List.length_nil, Option.map_some, cmpD, eqS_i, eqS_s, eqS_b, binD, bltD, truth, isTys, isTy, flatD, isNon, isLst, itemsOf, Nat.zero_add, Nat.reduceAdd, Nat.reduceLT, Nat.reduceLeDiff, if_true, if_false, reduceIte, decide_true, decide_false, Bool.not_true, Bool.not_false, runR, and_self, suF, suB, unX, unX1, List.map_cons, List.map_nil, sliD, partD, n4, x0, x1, e1]
    · rw [if_neg c]
      have rw1 := is_row_ok (i := i) (s := s) hi (tp_pl ht) (lo := 1) (up := 4)
      cases q : seqD inner with
      | none =>
        rw [isSq_none q] at rw1
        simp only [f4, List.cons_append, List.nil_append, ex, exs, ev, evs, evO, evI, fin, Out.bind, Out.bindL, OutL.bind, OutL.bindL, Out.fl, OutL.fl, Fl.seq, Out.get, bindT, bindTs, callO_L, Ou.out_ok, Ou.out_exc, List.getElem?_cons_zero, List.getElem?_cons_succ, List.set_cons_zero, List.set_cons_succ, List.length_cons, List.length_nil, Option.map_some, cmpD, eqS_i, eqS_s, eqS_b, binD, bltD, truth, isTys, isTy, flatD, isNon, isLst, itemsOf, Nat.zero_add, Nat.reduceAdd, Nat.reduceLT, Nat.reduceLeDiff, if_true, if_false, reduceIte, decide_true, decide_false, Bool.not_true, Bool.not_false, runR, and_self, suF, suB, unX, unX1, List.map_cons, List.map_nil, sliD, partD, n4, x0, x1, c, rw1, oD, Bool.false_eq_true]
      | some ps =>
        dsimp only
        cases q2 : isSq inner 1 (some 4) with
        | false =>
          rw [q2] at rw1
          simp only [f4, List.cons_append, List.nil_append, ex, exs, ev, evs, evO, evI, fin, Out.bind, Out.bindL, OutL.bind, OutL.bindL, Out.fl, OutL.fl, Fl.seq, Out.get, bindT, bindTs, callO_L, Ou.out_ok, Ou.out_exc, List.getElem?_cons_zero, List.getElem?_cons_succ, List.set_cons_zero, List.set_cons_succ, List.length_cons, List.length_nil, Option.map_some, cmpD, eqS_i, eqS_s, eqS_b, binD, bltD, truth, isTys, isTy, flatD, isNon, isLst, itemsOf, Nat.zero_add, Nat.reduceAdd, Nat.reduceLT, Nat.reduceLeDiff, if_true, if_false, reduceIte, decide_true, decide_false, Bool.not_true, Bool.not_false, runR, and_self, suF, suB, unX, unX1, List.map_cons, List.map_nil, sliD, partD, n4, x0, x1, c, rw1, oD, Bool.false_eq_true]
        | true =>
          rw [q2] at rw1
          obtain ⟨j', hj', _, hm⟩ := tp_items ht q
          rw [if_pos rfl]
          have pre : exs (fnL prg i) f4 [.im (.int w), .im d, .im (.int (4 - (r : Int))), .un, .un] s = exs (fnL prg i) f7 [.im (.int w), .im d, .im (.int (4 - (r : Int))), .un, .un] s := by
            unfold f4
            simp only [List.cons_append, List.nil_append]
            rw [sq_nx (ρ' := [.im (.int w), .im d, .im (.int (4 - (r : Int))), .un, .un]) (s' := s) (by simp only [ex, exs, ev, evs, evO, evI, fin, Out.bind, Out.bindL, OutL.bind, OutL.bindL, Out.fl, OutL.fl, Fl.seq, Out.get, bindT, bindTs, callO_L, Ou.out_ok, Ou.out_exc, List.getElem?_cons_zero, List.getElem?_cons_succ, List.set_cons_zero, List.set_cons_succ, List.length_cons, List.length_nil, Option.map_some, cmpD, eqS_i, eqS_s, eqS_b, binD, bltD, truth, isTys, isTy, flatD, isNon, isLst, itemsOf, Nat.zero_add, Nat.reduceAdd, Nat.reduceLT, Nat.reduceLeDiff, if_true, if_false, reduceIte, decide_true, decide_false, Bool.not_true, Bool.not_false, runR, and_self, suF, suB, unX, unX1, List.map_cons, List.map_nil, sliD, partD, n4])]
            rw [sq_nx (ρ' := [.im (.int w), .im d, .im (.int (4 - (r : Int))), .un, .un]) (s' := s) (by simp only [ex, exs, ev, evs, evO, evI, fin, Out.bind, Out.bindL, OutL.bind, OutL.bindL, Out.fl, OutL.fl, Fl.seq, Out.get, bindT, bindTs, callO_L, Ou.out_ok, Ou.out_exc, List.getElem?_cons_zero, List.getElem?_cons_succ, List.set_cons_zero, List.set_cons_succ, List.length_cons, List.length_nil, Option.map_some, cmpD, eqS_i, eqS_s, eqS_b, binD, bltD, truth, isTys, isTy, flatD, isNon, isLst, itemsOf, Nat.zero_add, Nat.reduceAdd, Nat.reduceLT, Nat.reduceLeDiff, if_true, if_false, reduceIte, decide_true, decide_false, Bool.not_true, Bool.not_false, runR, and_self, suF, suB, unX, unX1, List.map_cons, List.map_nil, sliD, partD, x0, c])]
            rw [sq_nx (ρ' := [.im (.int w), .im d, .im (.int (4 - (r : Int))), .un, .un]) (s' := s) (by simp only [ex, exs, ev, evs, evO, evI, fin, Out.bind, Out.bindL, OutL.bind, OutL.bindL, Out.fl, OutL.fl, Fl.seq, Out.get, bindT, bindTs, callO_L, Ou.out_ok, Ou.out_exc, List.getElem?_cons_zero, List.getElem?_cons_succ, List.set_cons_zero, List.set_cons_succ, List.length_cons, List.length_nil, Option.map_some, cmpD, eqS_i, eqS_s, eqS_b, binD, bltD, truth, isTys, isTy, flatD, isNon, isLst, itemsOf, Nat.zero_add, Nat.reduceAdd, Nat.reduceLT, Nat.reduceLeDiff, if_true, if_false, reduceIte, decide_true, decide_false, Bool.not_true, Bool.not_false, runR, and_self, suF, suB, unX, unX1, List.map_cons, List.map_nil, sliD, partD, x1, rw1])]
          rw [pre]
          have turn : ∀ x ∈ ps, ∀ z3 z4 : Sl, lpB (fnL prg i) (.nm 3) fB x [.im (.int w), .im d, .im (.int (4 - (r : Int))), z3, z4] s = match g x with | none => .nx [.im (.int w), .im d, .im (.int (4 - (r : Int))), .im x, .im .non] s | some y => .rt (.str y) s := fun x hx z3 z4 => by
            have e1 := hg g rfl j' x (hm x hx) (by omega)
            rw [lpB_eq (ρ' := [.im (.int w), .im d, .im (.int (4 - (r : Int))), .im x, z4]) rfl]
            cases q5 : g x with
            | none =>
              rw [q5] at e1
              simp only [fB, ex, exs, ev, evs, evO, evI, fin, Out.bind, Out.bindL, OutL.bind, OutL.bindL, Out.fl, OutL.fl, Fl.seq, Out.get, bindT, bindTs, callO_L, Ou.out_ok, Ou.out_exc, List.getElem?_cons_zero, List.getElem?_cons_succ, List.set_cons_zero, List.set_cons_succ, List.length_cons, List.length_nil, Option.map_some, cmpD, eqS_i, eqS_s, eqS_b, binD, bltD, truth, isTys, isTy, flatD, isNon, isLst, itemsOf, Nat.zero_add, Nat.reduceAdd, Nat.reduceLT, Nat.reduceLeDiff, if_true, if_false, reduceIte, decide_true, decide_false, Bool.not_true, Bool.not_false, runR, and_self, suF, suB, unX, unX1, List.map_cons, List.map_nil, sliD, partD, e1, oD, cmpD]
            | some y =>
              rw [q5] at e1
              simp only [fB, ex, exs, ev, evs, evO, evI, fin, Out.bind, Out.bindL, OutL.bind, OutL.bindL, Out.fl, OutL.fl, Fl.seq, Out.get, bindT, bindTs, callO_L, Ou.out_ok, Ou.out_exc, List.getElem?_cons_zero, List.getElem?_cons_succ, List.set_cons_zero, List.set_cons_succ, List.length_cons, List.length_nil, Option.map_some, cmpD, eqS_i, eqS_s, eqS_b, binD, bltD, truth, isTys, isTy, flatD, isNon, isLst, itemsOf, Nat.zero_add, Nat.reduceAdd, Nat.reduceLT, Nat.reduceLeDiff, if_true, if_false, reduceIte, decide_true, decide_false, Bool.not_true, Bool.not_false, runR, and_self, suF, suB, unX, unX1, List.map_cons, List.map_nil, sliD, partD, e1, oD, cmpD]
          have hit : evI (fnL prg i) (.seq (.ix (.bv 1) (.c (.int 1)))) [.im (.int w), .im d, .im (.int (4 - (r : Int))), .un, .un] s = .ok inner [.im (.int w), .im d, .im (.int (4 - (r : Int))), .un, .un] s := by simp only [ex, exs, ev, evs, evO, evI, fin, Out.bind, Out.bindL, OutL.bind, OutL.bindL, Out.fl, OutL.fl, Fl.seq, Out.get, bindT, bindTs, callO_L, Ou.out_ok, Ou.out_exc, List.getElem?_cons_zero, List.getElem?_cons_succ, List.set_cons_zero, List.set_cons_succ, List.length_cons, List.length_nil, Option.map_some, cmpD, eqS_i, eqS_s, eqS_b, binD, bltD, truth, isTys, isTy, flatD, isNon, isLst, itemsOf, Nat.zero_add, Nat.reduceAdd, Nat.reduceLT, Nat.reduceLeDiff, if_true, if_false, reduceIte, decide_true, decide_false, Bool.not_true, Bool.not_false, runR, and_self, suF, suB, unX, unX1, List.map_cons, List.map_nil, sliD, partD, x1]
          unfold f7
          cases q6 : firstF g ps with
          | some y =>
            obtain ⟨ρ', e⟩ := lp_some (f := lpB (fnL prg i) (.nm 3) fB) (g := g) (P := fun ρ => ∃ z3 z4, ρ = [.im (.int w), .im d, .im (.int (4 - (r : Int))), z3, z4]) (E := fun y _ => .rt (.str y) s) (s := s) (fun z ρ => .inl ⟨_, _, rfl⟩) q6 ⟨.un, .un, rfl⟩ (fun x hx ρ ⟨z3, z4, e⟩ hg => ⟨[.im (.int w), .im d, .im (.int (4 - (r : Int))), .im x, .im .non], (by
              subst e
              rw [turn x hx z3 z4, hg]), _, _, rfl⟩) fun x hx ρ y ⟨z3, z4, e⟩ hg => ⟨ρ, by
              subst e
              rw [turn x hx z3 z4, hg]⟩
            rw [sq_rt ((ex_for hit (it_seq q)).trans e)]
            rfl
          | none =>
            obtain ⟨ρ', e, z3, z4, e4⟩ := lp_none (f := lpB (fnL prg i) (.nm 3) fB) (g := g) (P := fun ρ => ∃ z3 z4, ρ = [.im (.int w), .im d, .im (.int (4 - (r : Int))), z3, z4]) (s := s) q6 ⟨.un, .un, rfl⟩ fun x hx ρ ⟨z3, z4, e⟩ hg => ⟨[.im (.int w), .im d, .im (.int (4 - (r : Int))), .im x, .im .non], (by
              subst e
              rw [turn x hx z3 z4, hg]), _, _, rfl⟩
            subst e4
            rw [sq_nx ((ex_for hit (it_seq q)).trans e)]
            simp only [ex, exs, ev, evs, evO, evI, fin, Out.bind, Out.bindL, OutL.bind, OutL.bindL, Out.fl, OutL.fl, Fl.seq, Out.get, bindT, bindTs, callO_L, Ou.out_ok, Ou.out_exc, List.getElem?_cons_zero, List.getElem?_cons_succ, List.set_cons_zero, List.set_cons_succ, List.length_cons, List.length_nil, Option.map_some, cmpD, eqS_i, eqS_s, eqS_b, binD, bltD, truth, isTys, isTy, flatD, isNon, isLst, itemsOf, Nat.zero_add, Nat.reduceAdd, Nat.reduceLT, Nat.reduceLeDiff, if_true, if_false, reduceIte, decide_true, decide_false, Bool.not_true, Bool.not_false, runR, and_self, suF, suB, unX, unX1, List.map_cons, List.map_nil, sliD, partD, oD]
theorem lfault_step {r : Nat} (deep : Option (D → Option Str)) {i k : Nat} {d : D} (hi : 2 ≤ i) (hr : r ≤ 3) (h0 : r = 0 ↔ deep = none) (hg : ∀ g, deep = some g → ∀ (j : Nat) (x : D), tp l j x = true → j ≤ 60 → Z.Cl prg i ("_law_fault", 3, []) [.int w, x, .int (4 - (r : Int) + 1)] s = .ok (oD (g x)) s) (ht : tp l k d = true) (hk : k ≤ 60) :
      Z.Cl prg (i + 1) ("_law_fault", 3, []) [.int w, d, .int (4 - (r : Int))] s = .ok (oD (stp w deep d)) s := by
    have r1 := is_row_ok (i := i) (s := s) (by omega) (tp_pl ht) (lo := 2) (up := 3)
    rw [Cl_eq (d := d__law_fault) (ρ := [.im (.int w), .im d, .im (.int (4 - (r : Int))), .un, .un]) rfl]
    have k5 : cap 5 = true := rfl
    have k2 : cap 2 = true := rfl
    have no : isSq d 2 (some 3) = false → runR (exs (fnL prg i) d__law_fault.body [.im (.int w), .im d, .im (.int (4 - (r : Int))), .un, .un] s) = .ok (.str "saying") s := fun q => by
      rw [q] at r1
      simp only [d__law_fault, b__law_fault, ex, exs, ev, evs, evO, evI, fin, Out.bind, Out.bindL, OutL.bind, OutL.bindL, Out.fl, OutL.fl, Fl.seq, Out.get, bindT, bindTs, callO_L, Ou.out_ok, Ou.out_exc, List.getElem?_cons_zero, List.getElem?_cons_succ, List.set_cons_zero, List.set_cons_succ, List.length_cons, List.length_nil, Option.map_some, cmpD, eqS_i, eqS_s, eqS_b, binD, bltD, truth, isTys, isTy, flatD, isNon, isLst, itemsOf, Nat.zero_add, Nat.reduceAdd, Nat.reduceLT, Nat.reduceLeDiff, if_true, if_false, reduceIte, decide_true, decide_false, Bool.not_true, Bool.not_false, runR, and_self, suF, suB, unX, unX1, List.map_cons, List.map_nil, sliD, partD, r1, Bool.false_eq_true]
    cases q : seqD d with
    | none => rw [no (isSq_none q _ _), stp_none q]; rfl
    | some xs =>
      cases q2 : isSq d 2 (some 3) with
      | false => rw [no q2, stp_len q q2]; rfl
      | true =>
        rw [q2] at r1
        obtain ⟨j, hj, _, hm⟩ := tp_items ht q
        have hl := q2
        rw [isSq_some q] at hl
        simp only [leB, Bool.and_eq_true, decide_eq_true_eq] at hl
        match xs, q, hm, hl with
        | a :: b :: more, q, hm, hl =>
          have x0 : ∀ s, ixD s d (.int 0) = some a := fun s => by rw [ixQ q]; exact atI0 _ _
          rcases head_cases (hm a (by simp)) (by omega) with ⟨m1, m2, m3⟩ | ⟨z, rfl, m1, hz⟩
          · have m1 : memD a (.lst [.str "most", .str "same", .str "not", .str "and", .str "or"]) = some false := m1
            rw [stp_head q m2 m3]
            simp only [d__law_fault, b__law_fault, ex, exs, ev, evs, evO, evI, fin, Out.bind, Out.bindL, OutL.bind, OutL.bindL, Out.fl, OutL.fl, Fl.seq, Out.get, bindT, bindTs, callO_L, Ou.out_ok, Ou.out_exc, List.getElem?_cons_zero, List.getElem?_cons_succ, List.set_cons_zero, List.set_cons_succ, List.length_cons, List.length_nil, Option.map_some, cmpD, eqS_i, eqS_s, eqS_b, binD, bltD, truth, isTys, isTy, flatD, isNon, isLst, itemsOf, Nat.zero_add, Nat.reduceAdd, Nat.reduceLT, Nat.reduceLeDiff, if_true, if_false, reduceIte, decide_true, decide_false, Bool.not_true, Bool.not_false, runR, and_self, suF, suB, unX, unX1, List.map_cons, List.map_nil, sliD, partD, r1, x0, k5, cmpD, m1]
            rfl
          · have m1 : memD (.str z) (.lst [.str "most", .str "same", .str "not", .str "and", .str "or"]) = some true := m1
            have stpC : ∀ c, more = [c] → (z = "most" ∨ z = "same") → stp w deep d = cmpF w b c := fun c e hz => by
              unfold stp
              rw [q, e]
              rcases hz with rfl | rfl <;> rfl
            have stpN : (more = [] ∧ (z = "most" ∨ z = "same")) ∨ (more ≠ [] ∧ (z = "not" ∨ z = "and" ∨ z = "or")) → stp w deep d = some ("saying" : Str) := fun h => by
              unfold stp
              rw [q]
              match more, h with
              | [], .inl ⟨_, hz⟩ => rcases hz with rfl | rfl <;> rfl
              | [], .inr ⟨e, _⟩ => exact absurd rfl e
              | [c], .inr ⟨_, hz⟩ => rcases hz with rfl | rfl | rfl <;> rfl
              | [c], .inl ⟨e, _⟩ => cases e
              | _ :: _ :: _, _ => simp at hl; omega
            by_cases hc : z = "most" ∨ z = "same"
            · have m2 : memD (.str z) (.lst [.str "most", .str "same"]) = some true := by rcases hc with rfl | rfl <;> decide +kernel
              match more, hl, q, hm, stpC, stpN with
              | [], hl, q, hm, stpC, stpN =>
                have ls : ∀ s, bltD s .len [d] = some (.int 2) := fun s => by rw [len_seq q]; rfl
                rw [stpN (.inl ⟨rfl, hc⟩)]
                simp only [d__law_fault, b__law_fault, ex, exs, ev, evs, evO, evI, fin, Out.bind, Out.bindL, OutL.bind, OutL.bindL, Out.fl, OutL.fl, Fl.seq, Out.get, bindT, bindTs, callO_L, Ou.out_ok, Ou.out_exc, List.getElem?_cons_zero, List.getElem?_cons_succ, List.set_cons_zero, List.set_cons_succ, List.length_cons, List.length_nil, Option.map_some, cmpD, eqS_i, eqS_s, eqS_b, binD, truth, isTys, isTy, flatD, isNon, isLst, itemsOf, Nat.zero_add, Nat.reduceAdd, Nat.reduceLT, Nat.reduceLeDiff, if_true, if_false, reduceIte, decide_true, decide_false, Bool.not_true, Bool.not_false, runR, and_self, suF, suB, unX, unX1, List.map_cons, List.map_nil, sliD, partD, r1, x0, k5, k2, cmpD, m1, m2, ls, oD]
                rfl
              | [c], hl, q, hm, stpC, stpN =>
                have ls : ∀ s, bltD s .len [d] = some (.int 3) := fun s => by rw [len_seq q]; rfl
                rw [stpC c rfl hc]
                have e1 := cmpfault_ok (i := i) (s := s) (w := w) hi q (hm b (by simp)) (tp_pl (hm c (by simp)))
                simp only [d__law_fault, b__law_fault, ex, exs, ev, evs, evO, evI, fin, Out.bind, Out.bindL, OutL.bind, OutL.bindL, Out.fl, OutL.fl, Fl.seq, Out.get, bindT, bindTs, callO_L, Ou.out_ok, Ou.out_exc, List.getElem?_cons_zero, List.getElem?_cons_succ, List.set_cons_zero, List.set_cons_succ, List.length_cons, List.length_nil, Option.map_some, cmpD, eqS_i, eqS_s, eqS_b, binD, truth, isTys, isTy, flatD, isNon, isLst, itemsOf, Nat.zero_add, Nat.reduceAdd, Nat.reduceLT, Nat.reduceLeDiff, if_true, if_false, reduceIte, decide_true, decide_false, Bool.not_true, Bool.not_false, runR, and_self, suF, suB, unX, unX1, List.map_cons, List.map_nil, sliD, partD, r1, x0, k5, k2, cmpD, m1, m2, ls, e1]

              | _ :: _ :: _, hl, _, _, _, _ => simp at hl; omega
            · have hz2 : z = "not" ∨ z = "and" ∨ z = "or" := by
                rcases hz with h | h | h
                · exact absurd (.inl h) hc
                · exact absurd (.inr h) hc
                · exact h
              have m2 : memD (.str z) (.lst [.str "most", .str "same"]) = some false := by rcases hz2 with rfl | rfl | rfl <;> decide +kernel
              match more, hl, q, hm, stpN with
              | [], hl, q, hm, stpN =>
                have ls : ∀ s, bltD s .len [d] = some (.int 2) := fun s => by rw [len_seq q]; rfl
                rw [← f4_ok (i := i) (s := s) hr (by omega) q (hm b (by simp)) hz2 deep h0 hg (by omega)]
                have eb : d__law_fault.body = [.ife (.orr (.nt (.call ("_law_is_row", 3, []) [false, false, false] [(.v 1), (.c (.int 2)), (.c (.int 3))])) (.cmp .nin (.ix (.bv 1) (.c (.int 0))) c5)) [.ret (.c (.str "saying"))] [],
                  .ife (.cmp .ne (.blt .len [(.bv 1)]) (.ife (.cmp .inn (.ix (.bv 1) (.c (.int 0))) c2) (.c (.int 3)) (.c (.int 2)))) [.ret (.c (.str "saying"))] [],
                  .ife (.cmp .inn (.ix (.bv 1) (.c (.int 0))) c2) [.ret (.call ("_law_comparison_fault", 2, []) [false, false] [(.v 0), (.v 1)])] []] ++ f4 := rfl
                rw [eb]
                simp only [List.cons_append, List.nil_append]
                rw [sq_nx (ρ' := [.im (.int w), .im d, .im (.int (4 - (r : Int))), .un, .un]) (s' := s) (by simp only [ex, exs, ev, evs, evO, evI, fin, Out.bind, Out.bindL, OutL.bind, OutL.bindL, Out.fl, OutL.fl, Fl.seq, Out.get, bindT, bindTs, callO_L, Ou.out_ok, Ou.out_exc, List.getElem?_cons_zero, List.getElem?_cons_succ, List.set_cons_zero, List.set_cons_succ, List.length_cons, List.length_nil, Option.map_some, cmpD, eqS_i, eqS_s, eqS_b, binD, bltD, truth, isTys, isTy, flatD, isNon, isLst, itemsOf, Nat.zero_add, Nat.reduceAdd, Nat.reduceLT, Nat.reduceLeDiff, if_true, if_false, reduceIte, decide_true, decide_false, Bool.not_true, Bool.not_false, runR, and_self, suF, suB, unX, unX1, List.map_cons, List.map_nil, sliD, partD, r1, x0, k5, cmpD, m1])]
                rw [sq_nx (ρ' := [.im (.int w), .im d, .im (.int (4 - (r : Int))), .un, .un]) (s' := s) (by simp only [ex, exs, ev, evs, evO, evI, fin, Out.bind, Out.bindL, OutL.bind, OutL.bindL, Out.fl, OutL.fl, Fl.seq, Out.get, bindT, bindTs, callO_L, Ou.out_ok, Ou.out_exc, List.getElem?_cons_zero, List.getElem?_cons_succ, List.set_cons_zero, List.set_cons_succ, List.length_cons, List.length_nil, Option.map_some, cmpD, eqS_i, eqS_s, eqS_b, binD, truth, isTys, isTy, flatD, isNon, isLst, itemsOf, Nat.zero_add, Nat.reduceAdd, Nat.reduceLT, Nat.reduceLeDiff, if_true, if_false, reduceIte, decide_true, decide_false, Bool.not_true, Bool.not_false, runR, and_self, suF, suB, unX, unX1, List.map_cons, List.map_nil, sliD, partD, x0, k2, m2, ls])]
                rw [sq_nx (ρ' := [.im (.int w), .im d, .im (.int (4 - (r : Int))), .un, .un]) (s' := s) (by simp only [ex, exs, ev, evs, evO, evI, fin, Out.bind, Out.bindL, OutL.bind, OutL.bindL, Out.fl, OutL.fl, Fl.seq, Out.get, bindT, bindTs, callO_L, Ou.out_ok, Ou.out_exc, List.getElem?_cons_zero, List.getElem?_cons_succ, List.set_cons_zero, List.set_cons_succ, List.length_cons, List.length_nil, Option.map_some, cmpD, eqS_i, eqS_s, eqS_b, binD, bltD, truth, isTys, isTy, flatD, isNon, isLst, itemsOf, Nat.zero_add, Nat.reduceAdd, Nat.reduceLT, Nat.reduceLeDiff, if_true, if_false, reduceIte, decide_true, decide_false, Bool.not_true, Bool.not_false, runR, and_self, suF, suB, unX, unX1, List.map_cons, List.map_nil, sliD, partD, x0, k2, m2])]
              | [c], hl, q, hm, stpN =>
                have ls : ∀ s, bltD s .len [d] = some (.int 3) := fun s => by rw [len_seq q]; rfl
                rw [stpN (.inr ⟨by simp, hz2⟩)]
                simp only [d__law_fault, b__law_fault, ex, exs, ev, evs, evO, evI, fin, Out.bind, Out.bindL, OutL.bind, OutL.bindL, Out.fl, OutL.fl, Fl.seq, Out.get, bindT, bindTs, callO_L, Ou.out_ok, Ou.out_exc, List.getElem?_cons_zero, List.getElem?_cons_succ, List.set_cons_zero, List.set_cons_succ, List.length_cons, List.length_nil, Option.map_some, cmpD, eqS_i, eqS_s, eqS_b, binD, truth, isTys, isTy, flatD, isNon, isLst, itemsOf, Nat.zero_add, Nat.reduceAdd, Nat.reduceLT, Nat.reduceLeDiff, if_true, if_false, reduceIte, decide_true, decide_false, Bool.not_true, Bool.not_false, runR, and_self, suF, suB, unX, unX1, List.map_cons, List.map_nil, sliD, partD, r1, x0, k5, k2, cmpD, m1, m2, ls, oD]
                rfl
              | _ :: _ :: _, hl, _, _, _ => simp at hl; omega
        | [_], _, _, hl => exact absurd hl.1 (by simp)
        | [], _, _, hl => exact absurd hl.1 (by simp)
theorem lfault_ok : ∀ (r : Nat) {i : Nat} {k : Nat} {d : D}, r + 3 ≤ i → r ≤ 3 → tp l k d = true → k ≤ 60 → Z.Cl prg i ("_law_fault", 3, []) [.int w, d, .int (4 - (r : Int))] s = .ok (oD (faultF w r d)) s
  | 0, i, k, d, hi, hr, ht, hk => by
    obtain ⟨i, rfl⟩ : ∃ j, i = j + 1 := ⟨i - 1, by omega⟩
    exact lfault_step none (by omega) hr (by simp) (fun g e => by cases e) ht hk
  | r + 1, i, k, d, hi, hr, ht, hk => by
    obtain ⟨i, rfl⟩ : ∃ j, i = j + 1 := ⟨i - 1, by omega⟩
    refine lfault_step (some (faultF w r)) (by omega) hr (by simp) (fun g e j x hx hj => ?_) ht hk
    cases e
    have e : (4 : Int) - ((r + 1 : Nat) : Int) + 1 = 4 - (r : Int) := by omega
    rw [e]
    exact lfault_ok r (by omega) (by omega) hx hj
end
end K49

namespace K49
open PySem PySem.Spec PyProof.Rows L2 Z Lb
/-! the program's check -/
def whatX (z : Str) : List (Str × D) := [("what", .str z)]
def oE (o : Option Str) (s : List D) : Ou := match o with
  | none => .ok .non s
  | some z => .exc 35 (whatX z) s
theorem sq_exc {F : Fs} {a : Stm} {b : List Stm} {ρ ρ' : En} {s s' : List D} {c : Nat} {fs : List (Str × D)} (h : ex F a ρ s = .exc c fs ρ' s') : exs F (a :: b) ρ s = .exc c fs ρ' s' := by
  show (ex F a ρ s).seq _ = _
  rw [h]; rfl
section
variable {i : Nat} {s : List D} {l : Bool} {k : Nat} {w : Int}
def coE : Ex := .lc [] [3] (.nm 3) (.seq (.sv 1)) none (.call ("is_couple", 1, []) [false] [(.v 3)])
theorem co_lc (hi : 1 ≤ i) {ts num : D} {xs : List D} (hq : seqD ts = some xs) (hp : ∀ x ∈ xs, pl x = true) (hl : xs.length ≤ 50000) :
    ev (fnL prg i) coE false [.im (.int w), .im ts, .im num, .un, .un, .un] s = .ok (.lst ((xs.map isCo).map D.bl)) [.im (.int w), .im ts, .im num, .un, .un, .un] s := by
  refine ev_lc (ρ9 := []) (x := ts) (xs := xs) (ρ' := [.im (.int w), .im ts, .im num, .un, .un, .un]) (s' := s) (by simp only [ex, exs, ev, evs, evO, evI, fin, Out.bind, Out.bindL, OutL.bind, OutL.bindL, Out.fl, OutL.fl, Fl.seq, Out.get, bindT, bindTs, callO_L, Ou.out_ok, Ou.out_exc, List.getElem?_cons_zero, List.getElem?_cons_succ, List.set_cons_zero, List.set_cons_succ, List.length_cons, List.length_nil, Option.map_some, cmpD, eqS_i, eqS_s, eqS_b, binD, bltD, ixD, truth, isTys, isTy, flatD, isNon, isLst, itemsOf, Nat.zero_add, Nat.reduceAdd, Nat.reduceLT, Nat.reduceLeDiff, if_true, if_false, reduceIte, decide_true, decide_false, Bool.not_true, Bool.not_false, runR, and_self, suF, suB, unX, unX1, List.map_cons, List.map_nil, sliD, partD]) (it_seq hq) ?_ (by simp [cap]; omega)
  have := goL_map (s := s) (f := lcF (fnL prg i) (blkE (Z.frzAt [.im (.int w), .im ts, .im num, .un, .un, .un] []) [3]) (.nm 3) none (.call ("is_couple", 1, []) [false] [(.v 3)])) (a := fun x => x) (b := fun x => D.bl (isCo x)) xs fun x hx => ⟨[], by
    have e := is_couple_ok (i := i) (s := s) hi (hp x hx)
    have eb : blkE (Z.frzAt [.im (.int w), .im ts, .im num, .un, .un, .un] []) [3] = [.im (.int w), .im ts, .im num, .un, .un, .un] := rfl
    rw [eb]
    simp only [lcF, ex, exs, ev, evs, evO, evI, fin, Out.bind, Out.bindL, OutL.bind, OutL.bindL, Out.fl, OutL.fl, Fl.seq, Out.get, bindT, bindTs, callO_L, Ou.out_ok, Ou.out_exc, List.getElem?_cons_zero, List.getElem?_cons_succ, List.set_cons_zero, List.set_cons_succ, List.length_cons, List.length_nil, Option.map_some, cmpD, eqS_i, eqS_s, eqS_b, binD, bltD, ixD, truth, isTys, isTy, flatD, isNon, isLst, itemsOf, Nat.zero_add, Nat.reduceAdd, Nat.reduceLT, Nat.reduceLeDiff, if_true, if_false, reduceIte, decide_true, decide_false, Bool.not_true, Bool.not_false, runR, and_self, suF, suB, unX, unX1, List.map_cons, List.map_nil, sliD, partD, e]⟩
  rw [List.map_map]
  simpa [Function.comp_def] using this
def cB : List Stm := [
    .ife (.orr (.nt (.call ("is_whole", 3, []) [false, false, false] [(.v 4), (.neg (.c (.int 999))), (.c (.int 999))])) (.cmp .eq (.bv 4) (.c (.int 0)))) [
      .rai 35 ["what"] [(.c (.str "factor"))]] [],
    .ife (.nt (.call ("is_whole", 3, []) [false, false, false] [(.v 5), (.c (.int (-1))), (.bin .sub (.bv 0) (.c (.int 1)))])) [
      .rai 35 ["what"] [(.c (.str "word"))]] []]
theorem c_turn (hi : 2 ≤ i) {ts num x : D} {a b c : Sl} (hx : isCo x = true) (hp : tp l k x = true) : ∃ f y, lpB (fnL prg i) (.tp [(.nm 4), (.nm 5)]) cB x [.im (.int w), .im ts, .im num, a, b, c] s = match termF w x with | none => .nx [.im (.int w), .im ts, .im num, a, f, y] s | some z => .exc 35 (whatX z) [.im (.int w), .im ts, .im num, a, f, y] s := by
  obtain ⟨f, y, e⟩ := co_two hx
  obtain ⟨j, _, _, hm⟩ := tp_items hp e
  have n1 : Z.Cl prg i ("is_whole", 3, []) [f, .int (-999), .int 999] s = .ok (.bl (isWh f (some (-999)) (some 999))) s := is_whole_ok (P := prg) (i := i) (s := s) hi (tp_pl (hm f (by simp))) (lo := some (-999)) (hi := some 999)
  have n2 : Z.Cl prg i ("is_whole", 3, []) [y, .int (-1), .int (w - 1)] s = .ok (.bl (isWh y (some (-1)) (some (w - 1)))) s := is_whole_ok (P := prg) (i := i) (s := s) hi (tp_pl (hm y (by simp))) (lo := some (-1)) (hi := some (w - 1))
  refine ⟨.im f, .im y, ?_⟩
  have eb : bindT (.tp [(.nm 4), (.nm 5)]) x [.im (.int w), .im ts, .im num, a, b, c] = some [.im (.int w), .im ts, .im num, a, .im f, .im y] := by
    cases x <;> first | (cases e; done) | (cases e; rfl)
  rw [lpB_eq eb]
  unfold termF
  rw [e]
  dsimp only
  cases q1 : isWh f (some (-999)) (some 999) with
  | false =>
    rw [q1] at n1
    simp only [cB, ex, exs, ev, evs, evO, evI, fin, Out.bind, Out.bindL, OutL.bind, OutL.bindL, Out.fl, OutL.fl, Fl.seq, Out.get, bindT, bindTs, callO_L, Ou.out_ok, Ou.out_exc, List.getElem?_cons_zero, List.getElem?_cons_succ, List.set_cons_zero, List.set_cons_succ, List.length_cons, List.length_nil, Option.map_some, cmpD, eqS_i, eqS_s, eqS_b, binD, bltD, truth, isTys, isTy, flatD, isNon, isLst, itemsOf, Nat.zero_add, Nat.reduceAdd, Nat.reduceLT, Nat.reduceLeDiff, if_true, if_false, reduceIte, decide_true, decide_false, Bool.not_true, Bool.not_false, runR, and_self, suF, suB, unX, unX1, List.map_cons, List.map_nil, sliD, partD, n1, Bool.false_and, Bool.false_eq_true, zip1, whatX]
  | true =>
    obtain ⟨n, rfl⟩ := num_int q1
    rw [q1] at n1
    by_cases c : n = 0
    · subst c
      simp only [cB, ex, exs, ev, evs, evO, evI, fin, Out.bind, Out.bindL, OutL.bind, OutL.bindL, Out.fl, OutL.fl, Fl.seq, Out.get, bindT, bindTs, callO_L, Ou.out_ok, Ou.out_exc, List.getElem?_cons_zero, List.getElem?_cons_succ, List.set_cons_zero, List.set_cons_succ, List.length_cons, List.length_nil, Option.map_some, cmpD, eqS_i, eqS_s, eqS_b, binD, bltD, truth, isTys, isTy, flatD, isNon, isLst, itemsOf, Nat.zero_add, Nat.reduceAdd, Nat.reduceLT, Nat.reduceLeDiff, if_true, if_false, reduceIte, decide_true, decide_false, Bool.not_true, Bool.not_false, runR, and_self, suF, suB, unX, unX1, List.map_cons, List.map_nil, sliD, partD, n1, isZ, Bool.and_false, Bool.false_eq_true, decide_true, zip1, whatX]
    · cases q2 : isWh y (some (-1)) (some (w - 1)) with
      | false =>
        rw [q2] at n2
        simp only [cB, ex, exs, ev, evs, evO, evI, fin, Out.bind, Out.bindL, OutL.bind, OutL.bindL, Out.fl, OutL.fl, Fl.seq, Out.get, bindT, bindTs, callO_L, Ou.out_ok, Ou.out_exc, List.getElem?_cons_zero, List.getElem?_cons_succ, List.set_cons_zero, List.set_cons_succ, List.length_cons, List.length_nil, Option.map_some, cmpD, eqS_i, eqS_s, eqS_b, binD, bltD, truth, isTys, isTy, flatD, isNon, isLst, itemsOf, Nat.zero_add, Nat.reduceAdd, Nat.reduceLT, Nat.reduceLeDiff, if_true, if_false, reduceIte, decide_true, decide_false, Bool.not_true, Bool.not_false, runR, and_self, suF, suB, unX, unX1, List.map_cons, List.map_nil, sliD, partD, n1, n2, isZ, c, decide_false, Bool.not_false, Bool.and_self, Bool.false_eq_true, zip1, whatX]
      | true =>
        rw [q2] at n2
        simp only [cB, ex, exs, ev, evs, evO, evI, fin, Out.bind, Out.bindL, OutL.bind, OutL.bindL, Out.fl, OutL.fl, Fl.seq, Out.get, bindT, bindTs, callO_L, Ou.out_ok, Ou.out_exc, List.getElem?_cons_zero, List.getElem?_cons_succ, List.set_cons_zero, List.set_cons_succ, List.length_cons, List.length_nil, Option.map_some, cmpD, eqS_i, eqS_s, eqS_b, binD, bltD, truth, isTys, isTy, flatD, isNon, isLst, itemsOf, Nat.zero_add, Nat.reduceAdd, Nat.reduceLT, Nat.reduceLeDiff, if_true, if_false, reduceIte, decide_true, decide_false, Bool.not_true, Bool.not_false, runR, and_self, suF, suB, unX, unX1, List.map_cons, List.map_nil, sliD, partD, n1, n2, isZ, c, decide_false, Bool.not_false, Bool.and_self]
theorem chkcmp_ok (hi : 3 ≤ i) {ts num : D} (h1 : tp l k ts = true) (h2 : pl num = true) : Z.Cl prg i ("_check_comparison", 3, []) [.int w, ts, num] s = oE (cmpF w ts num) s := by
  obtain ⟨i, rfl⟩ : ∃ j, i = j + 1 := ⟨i - 1, by omega⟩
  have r1 : Z.Cl prg i ("is_sequence", 3, []) [ts, .int 1, .int 5] s = .ok (.bl (isSq ts 1 (some 5))) s := is_sequence_ok (P := prg) (i := i) (s := s) (by omega) (tp_pl h1) (lo := 1) (hi := some 5)
  have n1 : Z.Cl prg i ("is_whole", 3, []) [num, .int (-999999), .int 999999] s = .ok (.bl (isWh num (some (-999999)) (some 999999))) s := is_whole_ok (P := prg) (i := i) (s := s) (by omega) h2 (lo := some (-999999)) (hi := some 999999)
  rw [Cl_eq (d := d__check_comparison) (ρ := [.im (.int w), .im ts, .im num, .un, .un, .un]) rfl]
  have eb : d__check_comparison.body = [.ife (.orr (.nt (.call ("is_sequence", 3, []) [false, false, false] [(.v 1), (.c (.int 1)), (.c (.int 5))])) (.nt (.blt .all [coE]))) [.rai 35 ["what"] [(.c (.str "terms"))]] [], .for (.tp [(.nm 4), (.nm 5)]) (.seq (.sv 1)) cB, .ife (.nt (.call ("is_whole", 3, []) [false, false, false] [(.v 2), (.neg (.c (.int 999999))), (.c (.int 999999))])) [
    .rai 35 ["what"] [(.c (.str "number"))]] []] := rfl
  rw [eb]
  have no : isSq ts 1 (some 5) = false → ∀ R : List Stm, runR (exs (fnL prg i) (.ife (.orr (.nt (.call ("is_sequence", 3, []) [false, false, false] [(.v 1), (.c (.int 1)), (.c (.int 5))])) (.nt (.blt .all [coE]))) [.rai 35 ["what"] [(.c (.str "terms"))]] [] :: R) [.im (.int w), .im ts, .im num, .un, .un, .un] s) = .exc 35 (whatX "terms") s := fun q R => by
    rw [q] at r1
    simp only [ex, exs, ev, evs, evO, evI, fin, Out.bind, Out.bindL, OutL.bind, OutL.bindL, Out.fl, OutL.fl, Fl.seq, Out.get, bindT, bindTs, callO_L, Ou.out_ok, Ou.out_exc, List.getElem?_cons_zero, List.getElem?_cons_succ, List.set_cons_zero, List.set_cons_succ, List.length_cons, List.length_nil, Option.map_some, cmpD, eqS_i, eqS_s, eqS_b, binD, bltD, truth, isTys, isTy, flatD, isNon, isLst, itemsOf, Nat.zero_add, Nat.reduceAdd, Nat.reduceLT, Nat.reduceLeDiff, if_true, if_false, reduceIte, decide_true, decide_false, Bool.not_true, Bool.not_false, runR, and_self, suF, suB, unX, unX1, List.map_cons, List.map_nil, sliD, partD, r1, Bool.false_eq_true, zip1, whatX]
  unfold cmpF
  cases q : seqD ts with
  | none => exact no (isSq_none q _ _) _
  | some xs =>
    dsimp only
    cases q2 : isSq ts 1 (some 5) with
    | false => exact no q2 _
    | true =>
      rw [q2] at r1
      obtain ⟨j, _, hlen, hm⟩ := tp_items h1 q
      have e3 := co_lc (i := i) (s := s) (w := w) (num := num) (by omega) q (fun x hx => tp_pl (hm x hx)) hlen
      have hb : (List.map isCo xs).all id = xs.all isCo := by rw [List.all_map]; rfl
      have ea : ev (fnL prg i) (.blt .all [coE]) true [.im (.int w), .im ts, .im num, .un, .un, .un] s = .ok (.bl (xs.all isCo)) [.im (.int w), .im ts, .im num, .un, .un, .un] s := by
        simp only [ev.eq_def (fnL prg i) (.blt _ _), evs, e3, Z.fin, Out.bind, Out.bindL, OutL.bind, OutL.bindL, Out.get, bltD, bls_map, Option.map_some, truth, hb]
      have et : ev (fnL prg i) (.orr (.nt (.call ("is_sequence", 3, []) [false, false, false] [(.v 1), (.c (.int 1)), (.c (.int 5))])) (.nt (.blt .all [coE]))) true [.im (.int w), .im ts, .im num, .un, .un, .un] s = .ok (.bl (!xs.all isCo)) [.im (.int w), .im ts, .im num, .un, .un, .un] s := by
        have e0 : ev (fnL prg i) (.nt (.call ("is_sequence", 3, []) [false, false, false] [(.v 1), (.c (.int 1)), (.c (.int 5))])) true [.im (.int w), .im ts, .im num, .un, .un, .un] s = .ok (.bl false) [.im (.int w), .im ts, .im num, .un, .un, .un] s := by simp only [ex, exs, ev, evs, evO, evI, fin, Out.bind, Out.bindL, OutL.bind, OutL.bindL, Out.fl, OutL.fl, Fl.seq, Out.get, bindT, bindTs, callO_L, Ou.out_ok, Ou.out_exc, List.getElem?_cons_zero, List.getElem?_cons_succ, List.set_cons_zero, List.set_cons_succ, List.length_cons, List.length_nil, Option.map_some, cmpD, eqS_i, eqS_s, eqS_b, binD, bltD, truth, isTys, isTy, flatD, isNon, isLst, itemsOf, Nat.zero_add, Nat.reduceAdd, Nat.reduceLT, Nat.reduceLeDiff, if_true, if_false, reduceIte, decide_true, decide_false, Bool.not_true, Bool.not_false, runR, and_self, suF, suB, unX, unX1, List.map_cons, List.map_nil, sliD, partD, r1]
        show (ev (fnL prg i) (.nt _) true _ s).bind _ = _
        rw [e0]
        show (ev (fnL prg i) (.blt .all [coE]) true _ s).bind _ = _
        rw [ea]
        rfl
      cases q4 : xs.all isCo with
      | false =>
        rw [q4] at et
        have e5 : ex (fnL prg i) (.ife (.orr (.nt (.call ("is_sequence", 3, []) [false, false, false] [(.v 1), (.c (.int 1)), (.c (.int 5))])) (.nt (.blt .all [coE]))) [.rai 35 ["what"] [(.c (.str "terms"))]] []) [.im (.int w), .im ts, .im num, .un, .un, .un] s = .exc 35 (whatX "terms") [.im (.int w), .im ts, .im num, .un, .un, .un] s := by
          rw [ex_ifT et]
          simp only [ex, exs, ev, evs, evO, evI, fin, Out.bind, Out.bindL, OutL.bind, OutL.bindL, Out.fl, OutL.fl, Fl.seq, Out.get, bindT, bindTs, callO_L, Ou.out_ok, Ou.out_exc, List.getElem?_cons_zero, List.getElem?_cons_succ, List.set_cons_zero, List.set_cons_succ, List.length_cons, List.length_nil, Option.map_some, cmpD, eqS_i, eqS_s, eqS_b, binD, bltD, truth, isTys, isTy, flatD, isNon, isLst, itemsOf, Nat.zero_add, Nat.reduceAdd, Nat.reduceLT, Nat.reduceLeDiff, if_true, if_false, reduceIte, decide_true, decide_false, Bool.not_true, Bool.not_false, runR, and_self, suF, suB, unX, unX1, List.map_cons, List.map_nil, sliD, partD, zip1, whatX]
        rw [sq_exc e5]
        rfl
      | true =>
        rw [q4] at et
        rw [sq_nx ((ex_ifF et).trans rfl)]
        have hit : evI (fnL prg i) (.seq (.sv 1)) [.im (.int w), .im ts, .im num, .un, .un, .un] s = .ok ts [.im (.int w), .im ts, .im num, .un, .un, .un] s := by simp only [ex, exs, ev, evs, evO, evI, fin, Out.bind, Out.bindL, OutL.bind, OutL.bindL, Out.fl, OutL.fl, Fl.seq, Out.get, bindT, bindTs, callO_L, Ou.out_ok, Ou.out_exc, List.getElem?_cons_zero, List.getElem?_cons_succ, List.set_cons_zero, List.set_cons_succ, List.length_cons, List.length_nil, Option.map_some, cmpD, eqS_i, eqS_s, eqS_b, binD, bltD, truth, isTys, isTy, flatD, isNon, isLst, itemsOf, Nat.zero_add, Nat.reduceAdd, Nat.reduceLT, Nat.reduceLeDiff, if_true, if_false, reduceIte, decide_true, decide_false, Bool.not_true, Bool.not_false, runR, and_self, suF, suB, unX, unX1, List.map_cons, List.map_nil, sliD, partD]
        cases q6 : firstF (termF w) xs with
        | some y =>
          obtain ⟨ρ', e⟩ := lp_some (f := lpB (fnL prg i) (.tp [(.nm 4), (.nm 5)]) cB) (g := termF w) (P := fun ρ => ∃ b c, ρ = [.im (.int w), .im ts, .im num, .un, b, c]) (E := fun y ρ => .exc 35 (whatX y) ρ s) (s := s) (fun z ρ => .inr ⟨_, _, _, _, rfl⟩) q6 ⟨.un, .un, rfl⟩ (fun x hx ρ ⟨b, c, e⟩ hg => by
            subst e
            obtain ⟨f, y, t⟩ := c_turn (i := i) (s := s) (w := w) (ts := ts) (num := num) (a := .un) (b := b) (c := c) (by omega) (List.all_eq_true.mp q4 x hx) (hm x hx)
            rw [hg] at t
            exact ⟨_, t, _, _, rfl⟩) fun x hx ρ y ⟨b, c, e⟩ hg => by
            subst e
            obtain ⟨f, y, t⟩ := c_turn (i := i) (s := s) (w := w) (ts := ts) (num := num) (a := .un) (b := b) (c := c) (by omega) (List.all_eq_true.mp q4 x hx) (hm x hx)
            rw [hg] at t
            exact ⟨_, t⟩
          rw [sq_exc ((ex_for hit (it_seq q)).trans e)]
          rfl
        | none =>
          obtain ⟨ρ', e, b, c, e4⟩ := lp_none (f := lpB (fnL prg i) (.tp [(.nm 4), (.nm 5)]) cB) (g := termF w) (P := fun ρ => ∃ b c, ρ = [.im (.int w), .im ts, .im num, .un, b, c]) (s := s) q6 ⟨.un, .un, rfl⟩ fun x hx ρ ⟨b, c, e⟩ hg => by
            subst e
            obtain ⟨f, y, t⟩ := c_turn (i := i) (s := s) (w := w) (ts := ts) (num := num) (a := .un) (b := b) (c := c) (by omega) (List.all_eq_true.mp q4 x hx) (hm x hx)
            rw [hg] at t
            exact ⟨_, t, _, _, rfl⟩
          subst e4
          rw [sq_nx ((ex_for hit (it_seq q)).trans e)]
          cases q7 : isWh num (some (-999999)) (some 999999) with
          | true =>
            rw [q7] at n1
            simp only [ex, exs, ev, evs, evO, evI, fin, Out.bind, Out.bindL, OutL.bind, OutL.bindL, Out.fl, OutL.fl, Fl.seq, Out.get, bindT, bindTs, callO_L, Ou.out_ok, Ou.out_exc, List.getElem?_cons_zero, List.getElem?_cons_succ, List.set_cons_zero, List.set_cons_succ, List.length_cons, List.length_nil, Option.map_some, cmpD, eqS_i, eqS_s, eqS_b, binD, bltD, truth, isTys, isTy, flatD, isNon, isLst, itemsOf, Nat.zero_add, Nat.reduceAdd, Nat.reduceLT, Nat.reduceLeDiff, if_true, if_false, reduceIte, decide_true, decide_false, Bool.not_true, Bool.not_false, runR, and_self, suF, suB, unX, unX1, List.map_cons, List.map_nil, sliD, partD, n1, oE, Bool.and_self]
          | false =>
            rw [q7] at n1
            simp only [ex, exs, ev, evs, evO, evI, fin, Out.bind, Out.bindL, OutL.bind, OutL.bindL, Out.fl, OutL.fl, Fl.seq, Out.get, bindT, bindTs, callO_L, Ou.out_ok, Ou.out_exc, List.getElem?_cons_zero, List.getElem?_cons_succ, List.set_cons_zero, List.set_cons_succ, List.length_cons, List.length_nil, Option.map_some, cmpD, eqS_i, eqS_s, eqS_b, binD, bltD, truth, isTys, isTy, flatD, isNon, isLst, itemsOf, Nat.zero_add, Nat.reduceAdd, Nat.reduceLT, Nat.reduceLeDiff, if_true, if_false, reduceIte, decide_true, decide_false, Bool.not_true, Bool.not_false, runR, and_self, suF, suB, unX, unX1, List.map_cons, List.map_nil, sliD, partD, n1, oE, Bool.and_self, Bool.false_eq_true, zip1, whatX]
end
end K49

namespace K49
open PySem PySem.Spec PyProof.Rows L2 Z Lb
section
variable {i : Nat} {s : List D} {l : Bool} {k : Nat} {w : Int}
/-- the form: its word and its length -/
def formB (d : D) : Bool := match seqD d with
  | some [.str z, _] => isOne ["not", "and", "or"] (.str z)
  | some [.str z, _, _] => isOne ["most", "same"] (.str z)
  | _ => false
abbrev ent : Ex := .blt (.dget [("most", some 3), ("same", some 3), ("not", some 2), ("and", some 2), ("or", some 2), ("", none)]) [(.ix (.bv 0) (.c (.int 0)))]
def entV (z : Str) : D := if z = "most" ∨ z = "same" then .int 3 else if z = "not" ∨ z = "and" ∨ z = "or" then .int 2 else .non
theorem form_ok (hi : 2 ≤ i) {d : D} (ht : tp l k d = true) : Z.Cl prg i ("_check_form", 1, []) [d] s = if formB d = true then .ok .non s else .exc 35 (whatX "saying") s := by
  obtain ⟨i, rfl⟩ : ∃ j, i = j + 1 := ⟨i - 1, by omega⟩
  have r1 := is_sequence_ok (P := prg) (i := i) (s := s) (by omega) (tp_pl ht) (lo := 1) (hi := none)
  rw [← is_sequence_2] at r1
  rw [Cl_eq (d := d__check_form) (ρ := [.im d]) rfl]
  have no : isSq d 1 none = false → runR (exs (fnL prg i) d__check_form.body [.im d] s) = .exc 35 (whatX "saying") s := fun q => by
    rw [q] at r1
    simp only [d__check_form, b__check_form, ex, exs, ev, evs, evO, evI, fin, Out.bind, Out.bindL, OutL.bind, OutL.bindL, Out.fl, OutL.fl, Fl.seq, Out.get, bindT, bindTs, callO_L, Ou.out_ok, Ou.out_exc, List.getElem?_cons_zero, List.getElem?_cons_succ, List.set_cons_zero, List.set_cons_succ, List.length_cons, List.length_nil, Option.map_some, cmpD, eqS_i, eqS_s, eqS_b, binD, truth, isTys, isTy, flatD, isNon, isLst, itemsOf, Nat.zero_add, Nat.reduceAdd, Nat.reduceLT, Nat.reduceLeDiff, if_true, if_false, reduceIte, decide_true, decide_false, Bool.not_true, Bool.not_false, runR, and_self, suF, suB, unX, unX1, List.map_cons, List.map_nil, sliD, partD, r1, Bool.false_eq_true, zip1, whatX]
  cases q : seqD d with
  | none =>
    rw [no (isSq_none q _ _)]
    unfold formB
    rw [q]
    rfl
  | some xs =>
    cases xs with
    | nil =>
      rw [no (by rw [isSq_some q]; rfl)]
      unfold formB
      rw [q]
      rfl
    | cons a more =>
      have e1 : isSq d 1 none = true := by
        rw [isSq_some q]
        simp [leB]
        omega
      rw [e1] at r1
      have x0 : ∀ s, ixD s d (.int 0) = some a := fun s => by rw [ixQ q]; exact atI0 _ _
      have ls : ∀ s, bltD s .len [d] = some (.int ((more.length : Nat) + 1 : Nat)) := fun s => by rw [len_seq q]; rfl
      obtain ⟨j, _, _, hm⟩ := tp_items ht q
      have ha := hm a (by simp)
      cases a with
      | str z =>
        have hz : wds.contains z = true := by cases j <;> exact ha
        have hg : ∀ s, bltD s (.dget [("most", some 3), ("same", some 3), ("not", some 2), ("and", some 2), ("or", some 2), ("", none)]) [.str z] = some (entV z) := fun s => by
          rcases wd_ok hz with rfl | rfl | rfl | rfl | rfl | rfl <;> rfl
        have key : ∃ b, eqS (entV z) (.int ((more.length + 1 : Nat) : Int)) = some b ∧ formB d = b := by
          unfold formB
          rw [q]
          match more with
          | [] =>
            refine ⟨false, ?_, rfl⟩
            show eqS (entV z) (.int 1) = some false
            rcases wd_ok hz with rfl | rfl | rfl | rfl | rfl | rfl <;> decide +kernel
          | [x] =>
            refine ⟨isOne ["not", "and", "or"] (.str z), ?_, rfl⟩
            show eqS (entV z) (.int 2) = some (isOne ["not", "and", "or"] (.str z))
            rcases wd_ok hz with rfl | rfl | rfl | rfl | rfl | rfl <;> decide +kernel
          | [x, y] =>
            refine ⟨isOne ["most", "same"] (.str z), ?_, rfl⟩
            show eqS (entV z) (.int 3) = some (isOne ["most", "same"] (.str z))
            rcases wd_ok hz with rfl | rfl | rfl | rfl | rfl | rfl <;> decide +kernel
          | x :: y :: u :: v =>
            refine ⟨false, ?_, rfl⟩
            have n3 : ¬ (((x :: y :: u :: v).length + 1 : Nat) : Int) = 3 := by simp; omega
            have n2 : ¬ (((x :: y :: u :: v).length + 1 : Nat) : Int) = 2 := by simp; omega
            generalize (((x :: y :: u :: v).length + 1 : Nat) : Int) = n at n2 n3
            have h3 : eqS (.int 3) (.int n) = some false := by rw [eqS_i, decide_eq_false (fun e => n3 e.symm)]
            have h2 : eqS (.int 2) (.int n) = some false := by rw [eqS_i, decide_eq_false (fun e => n2 e.symm)]
            rcases wd_ok hz with rfl | rfl | rfl | rfl | rfl | rfl
            · exact h3
            · exact h3
            · exact h2
            · exact h2
            · exact h2
            · rfl
        obtain ⟨b, k1, k2⟩ := key
        rw [k2]
        cases b with
        | true => simp only [d__check_form, b__check_form, ex, exs, ev, evs, evO, evI, fin, Out.bind, Out.bindL, OutL.bind, OutL.bindL, Out.fl, OutL.fl, Fl.seq, Out.get, bindT, bindTs, callO_L, Ou.out_ok, Ou.out_exc, List.getElem?_cons_zero, List.getElem?_cons_succ, List.set_cons_zero, List.set_cons_succ, List.length_cons, List.length_nil, Option.map_some, cmpD, eqS_i, eqS_s, eqS_b, binD, truth, isTys, isTy, flatD, isNon, isLst, itemsOf, Nat.zero_add, Nat.reduceAdd, Nat.reduceLT, Nat.reduceLeDiff, if_true, if_false, reduceIte, decide_true, decide_false, Bool.not_true, Bool.not_false, runR, and_self, suF, suB, unX, unX1, List.map_cons, List.map_nil, sliD, partD, r1, x0, hg, ls, k1]
        | false => simp only [d__check_form, b__check_form, ex, exs, ev, evs, evO, evI, fin, Out.bind, Out.bindL, OutL.bind, OutL.bindL, Out.fl, OutL.fl, Fl.seq, Out.get, bindT, bindTs, callO_L, Ou.out_ok, Ou.out_exc, List.getElem?_cons_zero, List.getElem?_cons_succ, List.set_cons_zero, List.set_cons_succ, List.length_cons, List.length_nil, Option.map_some, cmpD, eqS_i, eqS_s, eqS_b, binD, truth, isTys, isTy, flatD, isNon, isLst, itemsOf, Nat.zero_add, Nat.reduceAdd, Nat.reduceLT, Nat.reduceLeDiff, if_true, if_false, reduceIte, decide_true, decide_false, Bool.not_true, Bool.not_false, runR, and_self, suF, suB, unX, unX1, List.map_cons, List.map_nil, sliD, partD, r1, x0, hg, ls, k1, Bool.false_eq_true, zip1, whatX]
      | scr _ => cases j <;> cases ha
      | mref _ => cases j <;> cases ha
      | obj _ _ => cases j <;> cases ha
      | dic => cases j <;> cases ha
      | _ =>
        have e2 : formB d = false := by
          unfold formB
          rw [q]
        rw [e2]
        simp only [d__check_form, b__check_form, ex, exs, ev, evs, evO, evI, fin, Out.bind, Out.bindL, OutL.bind, OutL.bindL, Out.fl, OutL.fl, Fl.seq, Out.get, bindT, bindTs, callO_L, Ou.out_ok, Ou.out_exc, List.getElem?_cons_zero, List.getElem?_cons_succ, List.set_cons_zero, List.set_cons_succ, List.length_cons, List.length_nil, Option.map_some, cmpD, eqS_i, eqS_s, eqS_b, binD, truth, isTys, isTy, flatD, isNon, isLst, itemsOf, Nat.zero_add, Nat.reduceAdd, Nat.reduceLT, Nat.reduceLeDiff, if_true, if_false, reduceIte, decide_true, decide_false, Bool.not_true, Bool.not_false, runR, and_self, suF, suB, unX, unX1, List.map_cons, List.map_nil, sliD, partD, r1, x0, Bool.false_eq_true, zip1, whatX]
theorem form_head {d : D} (h : formB d = true) : (∃ z a, seqD d = some [.str z, a] ∧ (z = "not" ∨ z = "and" ∨ z = "or")) ∨ ∃ z a b, seqD d = some [.str z, a, b] ∧ (z = "most" ∨ z = "same") := by
  unfold formB at h
  split at h
  · rename_i z a e
    exact .inl ⟨z, a, e, by simpa [isOne] using h⟩
  · rename_i z a b e
    exact .inr ⟨z, a, b, e, by simpa [isOne] using h⟩
  · cases h
theorem stp_form {deep : Option (D → Option Str)} {d : D} (h : formB d = false) : stp w deep d = some ("saying" : Str) := by
  unfold formB at h
  unfold stp
  split
  · rename_i z a e
    rw [e] at h
    rw [if_neg (by intro c; have h : isOne _ _ = false := h; rw [c] at h; cases h)]
  · rename_i z a b e
    rw [e] at h
    rw [if_neg (by intro c; have h : isOne _ _ = false := h; rw [c] at h; cases h)]
  · rfl
def wB : List Stm := [.exp (.call ("_check_within", 3, []) [false, false, false] [(.v 0), (.v 5), (.bin .add (.bv 2) (.c (.int 1)))])]
theorem parts_ok (hi : 1 ≤ i) {d a : D} {z : Str} (hd : seqD d = some [.str z, a]) (hz : z = "not" ∨ seqD a ≠ none) : ∃ ps, Z.Cl prg i ("_parts_of", 1, []) [d] s = .ok (.lst ps) s ∧ (if z = "not" then ps = [a] else seqD a = some ps) := by
  obtain ⟨i, rfl⟩ : ∃ j, i = j + 1 := ⟨i - 1, by omega⟩
  have x0 : ∀ s, ixD s d (.int 0) = some (.str z) := fun s => by rw [ixQ hd]; exact atI0 _ _
  have x1 : ∀ s, ixD s d (.int 1) = some a := fun s => by rw [ixQ hd]; exact atI1 _ _ _
  have c1 : cap 1 = true := rfl
  rw [Cl_eq (d := d__parts_of) (ρ := [.im d]) rfl]
  by_cases c : z = "not"
  · subst c
    refine ⟨[a], ?_, by rw [if_pos rfl]⟩
    simp only [d__parts_of, b__parts_of, ex, exs, ev, evs, evO, evI, fin, Out.bind, Out.bindL, OutL.bind, OutL.bindL, Out.fl, OutL.fl, Fl.seq, Out.get, bindT, bindTs, callO_L, Ou.out_ok, Ou.out_exc, List.getElem?_cons_zero, List.getElem?_cons_succ, List.set_cons_zero, List.set_cons_succ, List.length_cons, List.length_nil, Option.map_some, cmpD, eqS_i, eqS_s, eqS_b, binD, bltD, truth, isTys, isTy, flatD, isNon, isLst, itemsOf, Nat.zero_add, Nat.reduceAdd, Nat.reduceLT, Nat.reduceLeDiff, if_true, if_false, reduceIte, decide_true, decide_false, Bool.not_true, Bool.not_false, runR, and_self, suF, suB, unX, unX1, List.map_cons, List.map_nil, sliD, partD, x0, x1, c1]
  · cases q : seqD a with
    | none => rcases hz with h | h; exact absurd h c; exact absurd q h
    | some ps =>
      refine ⟨ps, ?_, by rw [if_neg c]⟩
      have hl : ∀ s, bltD s .list [a] = some (.lst ps) := fun s => by cases a <;> first | (cases q; done) | (cases q; rfl)
      simp only [d__parts_of, b__parts_of, ex, exs, ev, evs, evO, evI, fin, Out.bind, Out.bindL, OutL.bind, OutL.bindL, Out.fl, OutL.fl, Fl.seq, Out.get, bindT, bindTs, callO_L, Ou.out_ok, Ou.out_exc, List.getElem?_cons_zero, List.getElem?_cons_succ, List.set_cons_zero, List.set_cons_succ, List.length_cons, List.length_nil, Option.map_some, cmpD, eqS_i, eqS_s, eqS_b, binD, truth, isTys, isTy, flatD, isNon, isLst, itemsOf, Nat.zero_add, Nat.reduceAdd, Nat.reduceLT, Nat.reduceLeDiff, if_true, if_false, reduceIte, decide_true, decide_false, Bool.not_true, Bool.not_false, runR, and_self, suF, suB, unX, unX1, List.map_cons, List.map_nil, sliD, partD, x0, x1, c, hl]
theorem within_step {r : Nat} (deep : Option (D → Option Str)) {i k : Nat} {d : D} (hi : 3 ≤ i) (hr : r ≤ 3) (h0 : r = 0 ↔ deep = none) (hg : ∀ g, deep = some g → ∀ (j : Nat) (x : D), tp l j x = true → j ≤ 60 → Z.Cl prg i ("_check_within", 3, []) [.int w, x, .int (4 - (r : Int) + 1)] s = oE (g x) s) (ht : tp l k d = true) (hk : k ≤ 60) :
    Z.Cl prg (i + 1) ("_check_within", 3, []) [.int w, d, .int (4 - (r : Int))] s = oE (stp w deep d) s := by
  have f1 := form_ok (i := i) (s := s) (by omega) ht
  rw [Cl_eq (d := d__check_within) (ρ := [.im (.int w), .im d, .im (.int (4 - (r : Int))), .un, .un, .un]) rfl]
  cases q : formB d with
  | false =>
    rw [q, if_neg Bool.false_ne_true] at f1
    rw [stp_form q]
    simp only [d__check_within, b__check_within, ex, exs, ev, evs, evO, evI, fin, Out.bind, Out.bindL, OutL.bind, OutL.bindL, Out.fl, OutL.fl, Fl.seq, Out.get, bindT, bindTs, callO_L, Ou.out_ok, Ou.out_exc, List.getElem?_cons_zero, List.getElem?_cons_succ, List.set_cons_zero, List.set_cons_succ, List.length_cons, List.length_nil, Option.map_some, cmpD, eqS_i, eqS_s, eqS_b, binD, truth, isTys, isTy, flatD, isNon, isLst, itemsOf, Nat.zero_add, Nat.reduceAdd, Nat.reduceLT, Nat.reduceLeDiff, if_true, if_false, reduceIte, decide_true, decide_false, Bool.not_true, Bool.not_false, runR, and_self, suF, suB, unX, unX1, List.map_cons, List.map_nil, sliD, partD, f1, oE]
  | true =>
    rw [q, if_pos rfl] at f1
    rcases form_head q with ⟨z, a, e, hz⟩ | ⟨z, a, b, e, hz⟩
    · have x0 : ∀ s, ixD s d (.int 0) = some (.str z) := fun s => by rw [ixQ e]; exact atI0 _ _
      have x1 : ∀ s, ixD s d (.int 1) = some a := fun s => by rw [ixQ e]; exact atI1 _ _ _
      obtain ⟨j, hj, _, hm⟩ := tp_items ht e
      have ha := hm a (by simp)
      have m1 : memD (.str z) (.tup [.str "most", .str "same"]) = some false := by rcases hz with rfl | rfl | rfl <;> decide +kernel
      have hone : isOne ["not", "and", "or"] (.str z) = true := by rcases hz with rfl | rfl | rfl <;> decide +kernel
      have es : stp w deep d = match deep with
        | none => some ("deep" : Str)
        | some g => if z = "not" then g a else match seqD a with
          | some ps => if isSq a 1 (some 4) = true then firstF g ps else some ("saying" : Str)
          | none => some ("saying" : Str) := by
        unfold stp
        rw [e]
        dsimp only
        rw [if_pos hone]
        cases deep <;> rfl
      rw [es]
      cases deep with
      | none =>
        have hr0 : r = 0 := h0.mpr rfl
        subst hr0
        simp only [d__check_within, b__check_within, ex, exs, ev, evs, evO, evI, fin, Out.bind, Out.bindL, OutL.bind, OutL.bindL, Out.fl, OutL.fl, Fl.seq, Out.get, bindT, bindTs, callO_L, Ou.out_ok, Ou.out_exc, List.getElem?_cons_zero, List.getElem?_cons_succ, List.set_cons_zero, List.set_cons_succ, List.length_cons, List.length_nil, Option.map_some, cmpD, eqS_i, eqS_s, eqS_b, binD, bltD, truth, isTys, isTy, flatD, isNon, isLst, itemsOf, Nat.zero_add, Nat.reduceAdd, Nat.reduceLT, Nat.reduceLeDiff, if_true, if_false, reduceIte, decide_true, decide_false, Bool.not_true, Bool.not_false, runR, and_self, suF, suB, unX, unX1, List.map_cons, List.map_nil, sliD, partD, f1, x0, x1, m1, Int.natCast_zero, Int.sub_zero, Int.ofNat_zero, show ((0 : Nat) : Int) = 0 from rfl, show (4 : Int) - 0 = 4 from rfl, oE, zip1, whatX]
      | some g =>
        have hr0 : r ≠ 0 := fun e => by cases h0.mp e
        have n4 : ¬ (4 - (r : Int)) = 4 := by omega
        dsimp only
        have r1 : Z.Cl prg i ("is_sequence", 3, []) [a, .int 1, .int 4] s = .ok (.bl (isSq a 1 (some 4))) s := is_sequence_ok (P := prg) (i := i) (s := s) (by omega) (tp_pl ha) (lo := 1) (hi := some 4)
        have eb : d__check_within.body = [
          .exp (.call ("_check_form", 1, []) [false] [(.v 1)]),
          .par 3 4 (.ix (.bv 1) (.c (.int 0))) (.ix (.bv 1) (.c (.int 1))),
          .ife (.cmp .inn (.bv 3) (.c (.tup [(.str "most"), (.str "same")]))) [
            .exp (.call ("_check_comparison", 3, []) [false, false, false] [(.v 0), (.v 4), (.ix (.bv 1) (.c (.int 2)))]),
            .retN] [],
          .ife (.cmp .eq (.bv 2) (.c (.int 4))) [
            .rai 35 ["what"] [(.c (.str "deep"))]] [],
          .ife (.an (.cmp .inn (.bv 3) (.c (.tup [(.str "and"), (.str "or")]))) (.nt (.call ("is_sequence", 3, []) [false, false, false] [(.v 4), (.c (.int 1)), (.c (.int 4))]))) [
            .rai 35 ["what"] [(.c (.str "saying"))]] [],
          .for (.nm 5) (.seq (.call ("_parts_of", 1, []) [false] [(.v 1)])) wB] := rfl
        have bad : z ≠ "not" → isSq a 1 (some 4) = false → runR (exs (fnL prg i) d__check_within.body [.im (.int w), .im d, .im (.int (4 - (r : Int))), .un, .un, .un] s) = .exc 35 (whatX "saying") s := fun c q2 => by
          rw [q2] at r1
          have m2 : memD (.str z) (.tup [.str "and", .str "or"]) = some true := by rcases hz with rfl | rfl | rfl; exact absurd rfl c; decide +kernel; decide +kernel
          simp only [d__check_within, b__check_within, ex, exs, ev, evs, evO, evI, fin, Out.bind, Out.bindL, OutL.bind, OutL.bindL, Out.fl, OutL.fl, Fl.seq, Out.get, bindT, bindTs, callO_L, Ou.out_ok, Ou.out_exc, List.getElem?_cons_zero, List.getElem?_cons_succ, List.set_cons_zero, List.set_cons_succ, List.length_cons, List.length_nil, Option.map_some, cmpD, eqS_i, eqS_s, eqS_b, binD, bltD, truth, isTys, isTy, flatD, isNon, isLst, itemsOf, Nat.zero_add, Nat.reduceAdd, Nat.reduceLT, Nat.reduceLeDiff, if_true, if_false, reduceIte, decide_true, decide_false, Bool.not_true, Bool.not_false, runR, and_self, suF, suB, unX, unX1, List.map_cons, List.map_nil, sliD, partD, f1, x0, x1, m1, m2, n4, r1, oE, zip1, whatX]
        have good : (z = "not" ∨ isSq a 1 (some 4) = true) → ∀ ps, (if z = "not" then ps = [a] else seqD a = some ps) → Z.Cl prg i ("_parts_of", 1, []) [d] s = .ok (.lst ps) s → (∀ x ∈ ps, ∃ j, tp l j x = true ∧ j ≤ 60) →
            runR (exs (fnL prg i) d__check_within.body [.im (.int w), .im d, .im (.int (4 - (r : Int))), .un, .un, .un] s) = oE (firstF g ps) s := fun hc ps hps hp hx => by
          have m2 : ∃ b, memD (.str z) (.tup [.str "and", .str "or"]) = some b ∧ (b = true → isSq a 1 (some 4) = true) := by
            rcases hz with rfl | rfl | rfl
            · exact ⟨false, by decide +kernel, fun e => by cases e⟩
            · exact ⟨true, by decide +kernel, fun _ => hc.resolve_left (by decide)⟩
            · exact ⟨true, by decide +kernel, fun _ => hc.resolve_left (by decide)⟩
          obtain ⟨b, m2, m3⟩ := m2
          rw [eb]
          rw [sq_nx (ρ' := [.im (.int w), .im d, .im (.int (4 - (r : Int))), .un, .un, .un]) (s' := s) (by simp only [ex, exs, ev, evs, evO, evI, fin, Out.bind, Out.bindL, OutL.bind, OutL.bindL, Out.fl, OutL.fl, Fl.seq, Out.get, bindT, bindTs, callO_L, Ou.out_ok, Ou.out_exc, List.getElem?_cons_zero, List.getElem?_cons_succ, List.set_cons_zero, List.set_cons_succ, List.length_cons, List.length_nil, Option.map_some, cmpD, eqS_i, eqS_s, eqS_b, binD, bltD, truth, isTys, isTy, flatD, isNon, isLst, itemsOf, Nat.zero_add, Nat.reduceAdd, Nat.reduceLT, Nat.reduceLeDiff, if_true, if_false, reduceIte, decide_true, decide_false, Bool.not_true, Bool.not_false, runR, and_self, suF, suB, unX, unX1, List.map_cons, List.map_nil, sliD, partD, f1])]
          rw [sq_nx (ρ' := [.im (.int w), .im d, .im (.int (4 - (r : Int))), .im (.str z), .im a, .un]) (s' := s) (by simp only [ex, exs, ev, evs, evO, evI, fin, Out.bind, Out.bindL, OutL.bind, OutL.bindL, Out.fl, OutL.fl, Fl.seq, Out.get, bindT, bindTs, callO_L, Ou.out_ok, Ou.out_exc, List.getElem?_cons_zero, List.getElem?_cons_succ, List.set_cons_zero, List.set_cons_succ, List.length_cons, List.length_nil, Option.map_some, cmpD, eqS_i, eqS_s, eqS_b, binD, bltD, truth, isTys, isTy, flatD, isNon, isLst, itemsOf, Nat.zero_add, Nat.reduceAdd, Nat.reduceLT, Nat.reduceLeDiff, if_true, if_false, reduceIte, decide_true, decide_false, Bool.not_true, Bool.not_false, runR, and_self, suF, suB, unX, unX1, List.map_cons, List.map_nil, sliD, partD, x0, x1])]
          rw [sq_nx (ρ' := [.im (.int w), .im d, .im (.int (4 - (r : Int))), .im (.str z), .im a, .un]) (s' := s) (by simp only [ex, exs, ev, evs, evO, evI, fin, Out.bind, Out.bindL, OutL.bind, OutL.bindL, Out.fl, OutL.fl, Fl.seq, Out.get, bindT, bindTs, callO_L, Ou.out_ok, Ou.out_exc, List.getElem?_cons_zero, List.getElem?_cons_succ, List.set_cons_zero, List.set_cons_succ, List.length_cons, List.length_nil, Option.map_some, cmpD, eqS_i, eqS_s, eqS_b, binD, bltD, truth, isTys, isTy, flatD, isNon, isLst, itemsOf, Nat.zero_add, Nat.reduceAdd, Nat.reduceLT, Nat.reduceLeDiff, if_true, if_false, reduceIte, decide_true, decide_false, Bool.not_true, Bool.not_false, runR, and_self, suF, suB, unX, unX1, List.map_cons, List.map_nil, sliD, partD, m1])]
          rw [sq_nx (ρ' := [.im (.int w), .im d, .im (.int (4 - (r : Int))), .im (.str z), .im a, .un]) (s' := s) (by simp only [ex, exs, ev, evs, evO, evI, fin, Out.bind, Out.bindL, OutL.bind, OutL.bindL, Out.fl, OutL.fl, Fl.seq, Out.get, bindT, bindTs, callO_L, Ou.out_ok, Ou.out_exc, List.getElem?_cons_zero, List.getElem?_cons_succ, List.set_cons_zero, List.set_cons_succ, List.length_cons, List.length_nil, Option.map_some, cmpD, eqS_i, eqS_s, eqS_b, binD, bltD, truth, isTys, isTy, flatD, isNon, isLst, itemsOf, Nat.zero_add, Nat.reduceAdd, Nat.reduceLT, Nat.reduceLeDiff, if_true, if_false, reduceIte, decide_true, decide_false, Bool.not_true, Bool.not_false, runR, and_self, suF, suB, unX, unX1, List.map_cons, List.map_nil, sliD, partD, n4])]
          rw [sq_nx (ρ' := [.im (.int w), .im d, .im (.int (4 - (r : Int))), .im (.str z), .im a, .un]) (s' := s) (by
            cases b with
            | false => simp only [ex, exs, ev, evs, evO, evI, fin, Out.bind, Out.bindL, OutL.bind, OutL.bindL, Out.fl, OutL.fl, Fl.seq, Out.get, bindT, bindTs, callO_L, Ou.out_ok, Ou.out_exc, List.getElem?_cons_zero, List.getElem?_cons_succ, List.set_cons_zero, List.set_cons_succ, List.length_cons, List.length_nil, Option.map_some, cmpD, eqS_i, eqS_s, eqS_b, binD, bltD, truth, isTys, isTy, flatD, isNon, isLst, itemsOf, Nat.zero_add, Nat.reduceAdd, Nat.reduceLT, Nat.reduceLeDiff, if_true, if_false, reduceIte, decide_true, decide_false, Bool.not_true, Bool.not_false, runR, and_self, suF, suB, unX, unX1, List.map_cons, List.map_nil, sliD, partD, m2]
            | true =>
              rw [m3 rfl] at r1
              simp only [ex, exs, ev, evs, evO, evI, fin, Out.bind, Out.bindL, OutL.bind, OutL.bindL, Out.fl, OutL.fl, Fl.seq, Out.get, bindT, bindTs, callO_L, Ou.out_ok, Ou.out_exc, List.getElem?_cons_zero, List.getElem?_cons_succ, List.set_cons_zero, List.set_cons_succ, List.length_cons, List.length_nil, Option.map_some, cmpD, eqS_i, eqS_s, eqS_b, binD, bltD, truth, isTys, isTy, flatD, isNon, isLst, itemsOf, Nat.zero_add, Nat.reduceAdd, Nat.reduceLT, Nat.reduceLeDiff, if_true, if_false, reduceIte, decide_true, decide_false, Bool.not_true, Bool.not_false, runR, and_self, suF, suB, unX, unX1, List.map_cons, List.map_nil, sliD, partD, m2, r1])]
          have hit : evI (fnL prg i) (.seq (.call ("_parts_of", 1, []) [false] [(.v 1)])) [.im (.int w), .im d, .im (.int (4 - (r : Int))), .im (.str z), .im a, .un] s = .ok (.lst ps) [.im (.int w), .im d, .im (.int (4 - (r : Int))), .im (.str z), .im a, .un] s := by simp only [ex, exs, ev, evs, evO, evI, fin, Out.bind, Out.bindL, OutL.bind, OutL.bindL, Out.fl, OutL.fl, Fl.seq, Out.get, bindT, bindTs, callO_L, Ou.out_ok, Ou.out_exc, List.getElem?_cons_zero, List.getElem?_cons_succ, List.set_cons_zero, List.set_cons_succ, List.length_cons, List.length_nil, Option.map_some, cmpD, eqS_i, eqS_s, eqS_b, binD, bltD, truth, isTys, isTy, flatD, isNon, isLst, itemsOf, Nat.zero_add, Nat.reduceAdd, Nat.reduceLT, Nat.reduceLeDiff, if_true, if_false, reduceIte, decide_true, decide_false, Bool.not_true, Bool.not_false, runR, and_self, suF, suB, unX, unX1, List.map_cons, List.map_nil, sliD, partD, hp]
          have turn : ∀ x ∈ ps, ∀ z5 : Sl, lpB (fnL prg i) (.nm 5) wB x [.im (.int w), .im d, .im (.int (4 - (r : Int))), .im (.str z), .im a, z5] s = match g x with | none => .nx [.im (.int w), .im d, .im (.int (4 - (r : Int))), .im (.str z), .im a, .im x] s | some y => .exc 35 (whatX y) [.im (.int w), .im d, .im (.int (4 - (r : Int))), .im (.str z), .im a, .im x] s := fun x hm z5 => by
            obtain ⟨j2, t1, t2⟩ := hx x hm
            have e1 := hg g rfl j2 x t1 t2
            rw [lpB_eq (ρ' := [.im (.int w), .im d, .im (.int (4 - (r : Int))), .im (.str z), .im a, .im x]) rfl]
            cases q5 : g x with
            | none =>
              rw [q5] at e1
              simp only [wB, ex, exs, ev, evs, evO, evI, fin, Out.bind, Out.bindL, OutL.bind, OutL.bindL, Out.fl, OutL.fl, Fl.seq, Out.get, bindT, bindTs, callO_L, Ou.out_ok, Ou.out_exc, List.getElem?_cons_zero, List.getElem?_cons_succ, List.set_cons_zero, List.set_cons_succ, List.length_cons, List.length_nil, Option.map_some, cmpD, eqS_i, eqS_s, eqS_b, binD, bltD, truth, isTys, isTy, flatD, isNon, isLst, itemsOf, Nat.zero_add, Nat.reduceAdd, Nat.reduceLT, Nat.reduceLeDiff, if_true, if_false, reduceIte, decide_true, decide_false, Bool.not_true, Bool.not_false, runR, and_self, suF, suB, unX, unX1, List.map_cons, List.map_nil, sliD, partD, e1, oE]
            | some y =>
              rw [q5] at e1
              simp only [wB, ex, exs, ev, evs, evO, evI, fin, Out.bind, Out.bindL, OutL.bind, OutL.bindL, Out.fl, OutL.fl, Fl.seq, Out.get, bindT, bindTs, callO_L, Ou.out_ok, Ou.out_exc, List.getElem?_cons_zero, List.getElem?_cons_succ, List.set_cons_zero, List.set_cons_succ, List.length_cons, List.length_nil, Option.map_some, cmpD, eqS_i, eqS_s, eqS_b, binD, bltD, truth, isTys, isTy, flatD, isNon, isLst, itemsOf, Nat.zero_add, Nat.reduceAdd, Nat.reduceLT, Nat.reduceLeDiff, if_true, if_false, reduceIte, decide_true, decide_false, Bool.not_true, Bool.not_false, runR, and_self, suF, suB, unX, unX1, List.map_cons, List.map_nil, sliD, partD, e1, oE]
          cases q6 : firstF g ps with
          | some y =>
            obtain ⟨ρ', e⟩ := lp_some (f := lpB (fnL prg i) (.nm 5) wB) (g := g) (P := fun ρ => ∃ z5, ρ = [.im (.int w), .im d, .im (.int (4 - (r : Int))), .im (.str z), .im a, z5]) (E := fun y ρ => .exc 35 (whatX y) ρ s) (s := s) (fun z ρ => .inr ⟨_, _, _, _, rfl⟩) q6 ⟨.un, rfl⟩ (fun x hx ρ ⟨z5, e⟩ hg => ⟨_, (by
              subst e
              rw [turn x hx z5, hg]), _, rfl⟩) fun x hx ρ y ⟨z5, e⟩ hg => ⟨_, by
              subst e
              rw [turn x hx z5, hg]⟩
            rw [sq_exc ((ex_for hit rfl).trans e)]
            rfl
          | none =>
            obtain ⟨ρ', e, z5, e4⟩ := lp_none (f := lpB (fnL prg i) (.nm 5) wB) (g := g) (P := fun ρ => ∃ z5, ρ = [.im (.int w), .im d, .im (.int (4 - (r : Int))), .im (.str z), .im a, z5]) (s := s) q6 ⟨.un, rfl⟩ fun x hx ρ ⟨z5, e⟩ hg => ⟨_, (by
              subst e
              rw [turn x hx z5, hg]), _, rfl⟩
            rw [sq_nx ((ex_for hit rfl).trans e)]
            rfl
        by_cases c : z = "not"
        · obtain ⟨ps, p1, p2⟩ := parts_ok (i := i) (s := s) (by omega) e (.inl c)
          rw [if_pos c] at p2
          subst p2
          rw [if_pos c, good (.inl c) [a] (by rw [if_pos c]) p1 fun x hx => by
            rw [List.mem_singleton.mp hx]
            exact ⟨j, ha, by omega⟩]
          unfold firstF firstF
          cases g a <;> rfl
        · rw [if_neg c]
          cases q3 : seqD a with
          | none => exact bad c (isSq_none q3 _ _)
          | some ps =>
            dsimp only
            cases q2 : isSq a 1 (some 4) with
            | false => exact bad c q2
            | true =>
              obtain ⟨ps', p1, p2⟩ := parts_ok (i := i) (s := s) (by omega) e (.inr (by rw [q3]; simp))
              rw [if_neg c, q3] at p2
              cases p2
              obtain ⟨j2, hj2, _, hm2⟩ := tp_items ha q3
              rw [if_pos rfl]
              exact good (.inr q2) ps (by rw [if_neg c]; exact q3) p1 fun x hx => ⟨j2, hm2 x hx, by omega⟩
    · have x0 : ∀ s, ixD s d (.int 0) = some (.str z) := fun s => by rw [ixQ e]; exact atI0 _ _
      have x1 : ∀ s, ixD s d (.int 1) = some a := fun s => by rw [ixQ e]; exact atI1 _ _ _
      have x2 : ∀ s, ixD s d (.int 2) = some b := fun s => by rw [ixQ e]; exact atI2 _ _ _ _
      obtain ⟨j, hj, _, hm⟩ := tp_items ht e
      have m1 : memD (.str z) (.tup [.str "most", .str "same"]) = some true := by rcases hz with rfl | rfl <;> decide +kernel
      have es : stp w deep d = cmpF w a b := by
        unfold stp
        rw [e]
        rcases hz with rfl | rfl <;> rfl
      have c1 := chkcmp_ok (i := i) (s := s) (w := w) hi (hm a (by simp)) (tp_pl (hm b (by simp)))
      rw [es]
      cases q5 : cmpF w a b with
      | none =>
        rw [q5] at c1
        simp only [d__check_within, b__check_within, ex, exs, ev, evs, evO, evI, fin, Out.bind, Out.bindL, OutL.bind, OutL.bindL, Out.fl, OutL.fl, Fl.seq, Out.get, bindT, bindTs, callO_L, Ou.out_ok, Ou.out_exc, List.getElem?_cons_zero, List.getElem?_cons_succ, List.set_cons_zero, List.set_cons_succ, List.length_cons, List.length_nil, Option.map_some, cmpD, eqS_i, eqS_s, eqS_b, binD, bltD, truth, isTys, isTy, flatD, isNon, isLst, itemsOf, Nat.zero_add, Nat.reduceAdd, Nat.reduceLT, Nat.reduceLeDiff, if_true, if_false, reduceIte, decide_true, decide_false, Bool.not_true, Bool.not_false, runR, and_self, suF, suB, unX, unX1, List.map_cons, List.map_nil, sliD, partD, f1, x0, x1, x2, m1, c1, oE]
      | some y =>
        rw [q5] at c1
        simp only [d__check_within, b__check_within, ex, exs, ev, evs, evO, evI, fin, Out.bind, Out.bindL, OutL.bind, OutL.bindL, Out.fl, OutL.fl, Fl.seq, Out.get, bindT, bindTs, callO_L, Ou.out_ok, Ou.out_exc, List.getElem?_cons_zero, List.getElem?_cons_succ, List.set_cons_zero, List.set_cons_succ, List.length_cons, List.length_nil, Option.map_some, cmpD, eqS_i, eqS_s, eqS_b, binD, bltD, truth, isTys, isTy, flatD, isNon, isLst, itemsOf, Nat.zero_add, Nat.reduceAdd, Nat.reduceLT, Nat.reduceLeDiff, if_true, if_false, reduceIte, decide_true, decide_false, Bool.not_true, Bool.not_false, runR, and_self, suF, suB, unX, unX1, List.map_cons, List.map_nil, sliD, partD, f1, x0, x1, x2, m1, c1, oE]
theorem within_ok : ∀ (r : Nat) {i : Nat} {k : Nat} {d : D}, r + 4 ≤ i → r ≤ 3 → tp l k d = true → k ≤ 60 → Z.Cl prg i ("_check_within", 3, []) [.int w, d, .int (4 - (r : Int))] s = oE (faultF w r d) s
  | 0, i, k, d, hi, hr, ht, hk => by
    obtain ⟨i, rfl⟩ : ∃ j, i = j + 1 := ⟨i - 1, by omega⟩
    exact within_step none (by omega) hr (by simp) (fun g e => by cases e) ht hk
  | r + 1, i, k, d, hi, hr, ht, hk => by
    obtain ⟨i, rfl⟩ : ∃ j, i = j + 1 := ⟨i - 1, by omega⟩
    refine within_step (some (faultF w r)) (by omega) hr (by simp) (fun g e j x hx hj => ?_) ht hk
    cases e
    have e : (4 : Int) - ((r + 1 : Nat) : Int) + 1 = 4 - (r : Int) := by omega
    rw [e]
    exact within_ok r (by omega) (by omega) hx hj
end
end K49

namespace K49
open PySem PySem.Spec PyProof.Rows L2 Z Lb
/-! lists in the place of tuples -/
mutual
def li : D → D
  | .tup xs => .lst (lis xs)
  | d => d
def lis : List D → List D
  | [] => []
  | d :: ds => li d :: lis ds
end
theorem lis_map : ∀ xs : List D, lis xs = xs.map li
  | [] => rfl
  | x :: xs => by rw [lis, lis_map xs, List.map_cons]
theorem li_tup (xs : List D) : li (.tup xs) = .lst (xs.map li) := by rw [li, lis_map]
theorem tp_tup {k : Nat} {xs : List D} : tp false (k + 1) (.tup xs) = (xs.all (tp false k) && decide (xs.length ≤ 50000)) := by
  rw [tp]; rfl
theorem tp_lst {k : Nat} {xs : List D} : tp true (k + 1) (.lst xs) = (xs.all (tp true k) && decide (xs.length ≤ 50000)) := by
  rw [tp]; rfl
theorem tp_kinds {k : Nat} {d : D} (h : tp false k d = true) : (∃ j xs, k = j + 1 ∧ d = .tup xs ∧ (∀ x ∈ xs, tp false j x = true) ∧ xs.length ≤ 50000) ∨ (li d = d ∧ seqD d = none ∧ (d = .non ∨ (∃ b, d = .bl b) ∨ (∃ n, d = .int n) ∨ ∃ z, d = .str z)) := by
  cases d with
  | tup xs =>
    obtain ⟨j, e, hl, hm⟩ := tp_items h rfl
    exact .inl ⟨j, xs, e, rfl, hm, hl⟩
  | non => exact .inr ⟨rfl, rfl, .inl rfl⟩
  | bl b => exact .inr ⟨rfl, rfl, .inr (.inl ⟨b, rfl⟩)⟩
  | int n => exact .inr ⟨rfl, rfl, .inr (.inr (.inl ⟨n, rfl⟩))⟩
  | str z => exact .inr ⟨rfl, rfl, .inr (.inr (.inr ⟨z, rfl⟩))⟩
  | lst xs =>
    cases k with
    | zero => cases h
    | succ k => rw [tp] at h; cases h
  | _ => cases k <;> cases h
theorem tp_flat {a b : Bool} {k : Nat} {d : D} (h : tp a k d = true) (e : seqD d = none) : tp b k d = true := by
  cases d <;> first | (cases e; done) | (cases k <;> first | exact h | cases h)
theorem tp_li : ∀ {k : Nat} {d : D}, tp false k d = true → tp true k (li d) = true := by
  intro k
  induction k with
  | zero =>
    intro d h
    rcases tp_kinds h with ⟨j, xs, e, _⟩ | ⟨e, e2, _⟩
    · cases e
    · rw [e]; exact tp_flat h e2
  | succ k ih =>
    intro d h
    rcases tp_kinds h with ⟨j, xs, e, rfl, hm, hl⟩ | ⟨e, e2, _⟩
    · cases e
      rw [li_tup, tp_lst, List.length_map, decide_eq_true hl, Bool.and_true, List.all_map, List.all_eq_true]
      exact fun x hx => ih (hm x hx)
    · rw [e]; exact tp_flat h e2
theorem seq_li {k : Nat} {d : D} (h : tp false k d = true) : seqD (li d) = (seqD d).map (List.map li) := by
  rcases tp_kinds h with ⟨j, xs, e, rfl, _⟩ | ⟨e, e2, _⟩
  · rw [li_tup]; rfl
  · rw [e, e2]; rfl
theorem sq_li {k : Nat} {d : D} (h : tp false k d = true) (lo : Int) (up : Option Int) : isSq (li d) lo up = isSq d lo up := by
  unfold isSq
  rw [seq_li h]
  cases seqD d with
  | none => rfl
  | some xs => simp
theorem wh_li (d : D) (lo up : Option Int) : isWh (li d) lo up = isWh d lo up := by cases d <;> first | rfl | (rw [li_tup]; rfl)
theorem z_li (d : D) : isZ (li d) = isZ d := by cases d <;> first | rfl | (rw [li_tup]; rfl)
theorem first_li {g g' : D → Option Str} : ∀ {xs : List D}, (∀ x ∈ xs, g (li x) = g' x) → firstF g (xs.map li) = firstF g' xs
  | [], _ => rfl
  | x :: xs, h => by
    rw [List.map_cons, firstF, firstF, h x (by simp), first_li fun y hy => h y (by simp [hy])]
theorem term_li {k : Nat} {w : Int} {d : D} (h : tp false k d = true) : termF w (li d) = termF w d := by
  unfold termF
  rw [seq_li h]
  match seqD d with
  | none => rfl
  | some [] => rfl
  | some [_] => rfl
  | some [f, x] =>
    show (if (isWh (li f) _ _ && !isZ (li f)) = true then (if isWh (li x) _ _ = true then none else _) else _) = _
    rw [wh_li, wh_li, z_li]
  | some (_ :: _ :: _ :: _) => rfl
theorem cmp_li {k : Nat} {w : Int} {ts num : D} (h : tp false k ts = true) : cmpF w (li ts) (li num) = cmpF w ts num := by
  unfold cmpF
  rw [seq_li h, sq_li h, wh_li]
  cases q : seqD ts with
  | none => rfl
  | some xs =>
    obtain ⟨j, _, _, hm⟩ := tp_items h q
    dsimp only [Option.map_some]
    have e1 : (xs.map li).all isCo = xs.all isCo := by
      rw [List.all_map]
      rw [Bool.eq_iff_iff, List.all_eq_true, List.all_eq_true]
      exact ⟨fun z x hx => by have := z x hx; rw [Function.comp, isCo, sq_li (hm x hx)] at this; exact this, fun z x hx => by rw [Function.comp, isCo, sq_li (hm x hx)]; exact z x hx⟩
    rw [e1, first_li fun x hx => term_li (hm x hx)]
theorem isOne_li (ws : List Str) (d : D) : isOne ws (li d) = isOne ws d := by cases d <;> first | rfl | (rw [li_tup]; rfl)
theorem stp_li {w : Int} {k : Nat} {deep deep' : Option (D → Option Str)} {d : D} (h : tp false k d = true) (hd : (deep = none ↔ deep' = none)) (hg : ∀ g g', deep = some g → deep' = some g' → ∀ (j : Nat) (x : D), tp false j x = true → g (li x) = g' x) : stp w deep (li d) = stp w deep' d := by
  rcases tp_kinds h with ⟨j, xs, e, rfl, hm, hl⟩ | ⟨e, e2, _⟩
  · rw [li_tup]
    unfold stp
    show (match some (xs.map li) with | some [.str z, inner] => _ | some [.str z, ts, num] => _ | _ => _) = (match some xs with | some [.str z, inner] => _ | some [.str z, ts, num] => _ | _ => _)
    match xs, hm with
    | [], _ => rfl
    | [_], _ => simp
    | [a, b], hm =>
      have hb := hm b (by simp)
      cases a with
      | str z =>
        show (if isOne _ (.str z) = true then _ else _) = (if isOne _ (.str z) = true then _ else _)
        split
        · cases deep with
          | none =>
            cases deep' with
            | none => rfl
            | some g' => cases hd.mp rfl
          | some g =>
            cases deep' with
            | none => cases hd.mpr rfl
            | some g' =>
              have e1 := hg g g' rfl rfl
              dsimp only
              split
              · exact e1 j b hb
              · rw [seq_li hb, sq_li hb]
                cases q : seqD b with
                | none => rfl
                | some ps =>
                  obtain ⟨j2, _, _, hm2⟩ := tp_items hb q
                  dsimp only [Option.map_some]
                  rw [first_li fun x hx => e1 j2 x (hm2 x hx)]
        · rfl
      | tup ys => simp [li_tup]
      | _ => simp [li]
    | [a, b, c], hm =>
      have hb := hm b (by simp)
      cases a with
      | str z =>
        show (if isOne _ (.str z) = true then cmpF w (li b) (li c) else _) = (if isOne _ (.str z) = true then cmpF w b c else _)
        rw [cmp_li hb]
      | tup ys => simp [li_tup]
      | _ => simp [li]
    | _ :: _ :: _ :: _ :: _, _ => simp
  · rw [e]
    unfold stp
    rw [e2]
theorem fault_li {w : Int} : ∀ (r : Nat) {k : Nat} {d : D}, tp false k d = true → faultF w r (li d) = faultF w r d
  | 0, k, d, h => stp_li h (by simp) (fun g g' e => by cases e)
  | r + 1, k, d, h => stp_li h (by simp) (fun g g' e e' j x hx => by
    cases e
    cases e'
    exact fault_li r hx)
section
variable {s : List D} {w : Int}
def liE : Ex := .lc [] [1] (.nm 1) (.seq (.sv 0)) none (.call ("_law_listed", 1, []) [false] [(.v 1)])
theorem listed_ok : ∀ {k i : Nat} {d : D}, k + 1 ≤ i → tp false k d = true → Z.Cl prg i ("_law_listed", 1, []) [d] s = .ok (li d) s := by
  intro k
  induction k with
  | zero =>
    intro i d hi h
    obtain ⟨i, rfl⟩ : ∃ j, i = j + 1 := ⟨i - 1, by omega⟩
    rw [Cl_eq (d := d__law_listed) (ρ := [.im d, .un]) rfl]
    rcases tp_kinds h with ⟨j, xs, e, _⟩ | ⟨e, e2, e3⟩
    · cases e
    · rw [e]
      rcases e3 with rfl | ⟨b, rfl⟩ | ⟨n, rfl⟩ | ⟨z, rfl⟩ <;> simp only [d__law_listed, b__law_listed, ex, exs, ev, evs, evO, evI, fin, Out.bind, Out.bindL, OutL.bind, OutL.bindL, Out.fl, OutL.fl, Fl.seq, Out.get, bindT, bindTs, callO_L, Ou.out_ok, Ou.out_exc, List.getElem?_cons_zero, List.getElem?_cons_succ, List.set_cons_zero, List.set_cons_succ, List.length_cons, List.length_nil, Option.map_some, cmpD, eqS_i, eqS_s, eqS_b, binD, bltD, ixD, truth, isTys, isTy, flatD, isNon, isLst, itemsOf, Nat.zero_add, Nat.reduceAdd, Nat.reduceLT, Nat.reduceLeDiff, if_true, if_false, reduceIte, decide_true, decide_false, Bool.not_true, Bool.not_false, runR, and_self, suF, suB, unX, unX1, List.map_cons, List.map_nil, sliD, partD]
  | succ k ih =>
    intro i d hi h
    obtain ⟨i, rfl⟩ : ∃ j, i = j + 1 := ⟨i - 1, by omega⟩
    rw [Cl_eq (d := d__law_listed) (ρ := [.im d, .un]) rfl]
    rcases tp_kinds h with ⟨j, xs, e, rfl, hm, hl⟩ | ⟨e, e2, e3⟩
    · cases e
      have e1 : ev (fnL prg i) liE false [.im (.tup xs), .un] s = .ok (.lst (xs.map li)) [.im (.tup xs), .un] s := by
        refine ev_lc (ρ9 := []) (x := .tup xs) (xs := xs) (ρ' := [.im (.tup xs), .un]) (s' := s) (by simp only [ex, exs, ev, evs, evO, evI, fin, Out.bind, Out.bindL, OutL.bind, OutL.bindL, Out.fl, OutL.fl, Fl.seq, Out.get, bindT, bindTs, callO_L, Ou.out_ok, Ou.out_exc, List.getElem?_cons_zero, List.getElem?_cons_succ, List.set_cons_zero, List.set_cons_succ, List.length_cons, List.length_nil, Option.map_some, cmpD, eqS_i, eqS_s, eqS_b, binD, bltD, ixD, truth, isTys, isTy, flatD, isNon, isLst, itemsOf, Nat.zero_add, Nat.reduceAdd, Nat.reduceLT, Nat.reduceLeDiff, if_true, if_false, reduceIte, decide_true, decide_false, Bool.not_true, Bool.not_false, runR, and_self, suF, suB, unX, unX1, List.map_cons, List.map_nil, sliD, partD]) rfl ?_ (by simp [cap]; omega)
        have := goL_map (s := s) (f := lcF (fnL prg i) (blkE (Z.frzAt [.im (.tup xs), .un] []) [1]) (.nm 1) none (.call ("_law_listed", 1, []) [false] [(.v 1)])) (a := fun x => x) (b := li) xs fun x hx => ⟨[], by
          have e := ih (i := i) (by omega) (hm x hx)
          have eb : blkE (Z.frzAt [.im (.tup xs), .un] []) [1] = [.im (.tup xs), .un] := rfl
          rw [eb]
          simp only [lcF, ex, exs, ev, evs, evO, evI, fin, Out.bind, Out.bindL, OutL.bind, OutL.bindL, Out.fl, OutL.fl, Fl.seq, Out.get, bindT, bindTs, callO_L, Ou.out_ok, Ou.out_exc, List.getElem?_cons_zero, List.getElem?_cons_succ, List.set_cons_zero, List.set_cons_succ, List.length_cons, List.length_nil, Option.map_some, cmpD, eqS_i, eqS_s, eqS_b, binD, bltD, ixD, truth, isTys, isTy, flatD, isNon, isLst, itemsOf, Nat.zero_add, Nat.reduceAdd, Nat.reduceLT, Nat.reduceLeDiff, if_true, if_false, reduceIte, decide_true, decide_false, Bool.not_true, Bool.not_false, runR, and_self, suF, suB, unX, unX1, List.map_cons, List.map_nil, sliD, partD, e]⟩
        simpa using this
      have eb : d__law_listed.body = [.ife (.isi (.bv 0) [.tuple]) [.ret liE] [], .ret (.v 0)] := rfl
      have et : ev (fnL prg i) (.isi (.bv 0) [.tuple]) true [.im (.tup xs), .un] s = .ok (.bl true) [.im (.tup xs), .un] s := by simp only [ex, exs, ev, evs, evO, evI, fin, Out.bind, Out.bindL, OutL.bind, OutL.bindL, Out.fl, OutL.fl, Fl.seq, Out.get, bindT, bindTs, callO_L, Ou.out_ok, Ou.out_exc, List.getElem?_cons_zero, List.getElem?_cons_succ, List.set_cons_zero, List.set_cons_succ, List.length_cons, List.length_nil, Option.map_some, cmpD, eqS_i, eqS_s, eqS_b, binD, bltD, ixD, truth, isTys, isTy, flatD, isNon, isLst, itemsOf, Nat.zero_add, Nat.reduceAdd, Nat.reduceLT, Nat.reduceLeDiff, if_true, if_false, reduceIte, decide_true, decide_false, Bool.not_true, Bool.not_false, runR, and_self, suF, suB, unX, unX1, List.map_cons, List.map_nil, sliD, partD]
      rw [eb, sq_rt ((ex_ifT et).trans (sq_rt (ex_ret e1))), li_tup]
      rfl
    · rw [e]
      rcases e3 with rfl | ⟨b, rfl⟩ | ⟨n, rfl⟩ | ⟨z, rfl⟩ <;> simp only [d__law_listed, b__law_listed, ex, exs, ev, evs, evO, evI, fin, Out.bind, Out.bindL, OutL.bind, OutL.bindL, Out.fl, OutL.fl, Fl.seq, Out.get, bindT, bindTs, callO_L, Ou.out_ok, Ou.out_exc, List.getElem?_cons_zero, List.getElem?_cons_succ, List.set_cons_zero, List.set_cons_succ, List.length_cons, List.length_nil, Option.map_some, cmpD, eqS_i, eqS_s, eqS_b, binD, bltD, ixD, truth, isTys, isTy, flatD, isNon, isLst, itemsOf, Nat.zero_add, Nat.reduceAdd, Nat.reduceLT, Nat.reduceLeDiff, if_true, if_false, reduceIte, decide_true, decide_false, Bool.not_true, Bool.not_false, runR, and_self, suF, suB, unX, unX1, List.map_cons, List.map_nil, sliD, partD]
def asE : Ex := .lc [] [1] (.nm 1) (.seq (.sv 0)) none (.call ("as_tuples", 1, []) [false] [(.v 1)])
theorem astup_gen {i : Nat} (hi : 1 ≤ i) {d : D} {xs : List D} (a g : D → D) (hp : pl d = true) (hq : seqD d = some (xs.map a)) (hl : xs.length ≤ 50000) (ih : ∀ x ∈ xs, Z.Cl prg i ("as_tuples", 1, []) [a x] s = .ok (g x) s) : Z.Cl prg (i + 1) ("as_tuples", 1, []) [d] s = .ok (.tup (xs.map g)) s := by
  rw [Cl_eq (d := d_as_tuples) (ρ := [.im d, .un]) rfl]
  have r1 := is_sequence_ok (P := prg) (i := i) (s := s) hi hp (lo := 0) (hi := none)
  rw [← is_sequence_1, isSq_some hq] at r1
  have r2 : (decide ((0 : Int) ≤ ((xs.map a).length : Nat)) && leB none ((xs.map a).length : Nat)) = true := by simp [leB]
  rw [r2] at r1
  have e1 : ev (fnL prg i) asE false [.im d, .un] s = .ok (.lst (xs.map g)) [.im d, .un] s := by
    refine ev_lc (ρ9 := []) (x := d) (xs := xs.map a) (ρ' := [.im d, .un]) (s' := s) (by simp only [ex, exs, ev, evs, evO, evI, fin, Out.bind, Out.bindL, OutL.bind, OutL.bindL, Out.fl, OutL.fl, Fl.seq, Out.get, bindT, bindTs, callO_L, Ou.out_ok, Ou.out_exc, List.getElem?_cons_zero, List.getElem?_cons_succ, List.set_cons_zero, List.set_cons_succ, List.length_cons, List.length_nil, Option.map_some, cmpD, eqS_i, eqS_s, eqS_b, binD, bltD, ixD, truth, isTys, isTy, flatD, isNon, isLst, itemsOf, Nat.zero_add, Nat.reduceAdd, Nat.reduceLT, Nat.reduceLeDiff, if_true, if_false, reduceIte, decide_true, decide_false, Bool.not_true, Bool.not_false, runR, and_self, suF, suB, unX, unX1, List.map_cons, List.map_nil, sliD, partD]) (it_seq hq) ?_ (by simp [cap]; omega)
    have := goL_map (s := s) (f := lcF (fnL prg i) (blkE (Z.frzAt [.im d, .un] []) [1]) (.nm 1) none (.call ("as_tuples", 1, []) [false] [(.v 1)])) (a := a) (b := g) xs fun x hx => ⟨[], by
      have e := ih x hx
      have eb : blkE (Z.frzAt [.im d, .un] []) [1] = [.im d, .un] := rfl
      rw [eb]
      simp only [lcF, ex, exs, ev, evs, evO, evI, fin, Out.bind, Out.bindL, OutL.bind, OutL.bindL, Out.fl, OutL.fl, Fl.seq, Out.get, bindT, bindTs, callO_L, Ou.out_ok, Ou.out_exc, List.getElem?_cons_zero, List.getElem?_cons_succ, List.set_cons_zero, List.set_cons_succ, List.length_cons, List.length_nil, Option.map_some, cmpD, eqS_i, eqS_s, eqS_b, binD, bltD, ixD, truth, isTys, isTy, flatD, isNon, isLst, itemsOf, Nat.zero_add, Nat.reduceAdd, Nat.reduceLT, Nat.reduceLeDiff, if_true, if_false, reduceIte, decide_true, decide_false, Bool.not_true, Bool.not_false, runR, and_self, suF, suB, unX, unX1, List.map_cons, List.map_nil, sliD, partD, e]⟩
    simpa using this
  have eb : d_as_tuples.body = [.ife (.nt (.call ("is_sequence", 1, []) [false] [(.v 0)])) [.ret (.v 0)] [], .ret (.blt .tuple [asE])] := rfl
  have et : ev (fnL prg i) (.nt (.call ("is_sequence", 1, []) [false] [(.v 0)])) true [.im d, .un] s = .ok (.bl false) [.im d, .un] s := by simp only [ex, exs, ev, evs, evO, evI, fin, Out.bind, Out.bindL, OutL.bind, OutL.bindL, Out.fl, OutL.fl, Fl.seq, Out.get, bindT, bindTs, callO_L, Ou.out_ok, Ou.out_exc, List.getElem?_cons_zero, List.getElem?_cons_succ, List.set_cons_zero, List.set_cons_succ, List.length_cons, List.length_nil, Option.map_some, cmpD, eqS_i, eqS_s, eqS_b, binD, bltD, ixD, truth, isTys, isTy, flatD, isNon, isLst, itemsOf, Nat.zero_add, Nat.reduceAdd, Nat.reduceLT, Nat.reduceLeDiff, if_true, if_false, reduceIte, decide_true, decide_false, Bool.not_true, Bool.not_false, runR, and_self, suF, suB, unX, unX1, List.map_cons, List.map_nil, sliD, partD, r1]
  have er : ev (fnL prg i) (.blt .tuple [asE]) false [.im d, .un] s = .ok (.tup (xs.map g)) [.im d, .un] s := by
    simp only [ev.eq_def (fnL prg i) (.blt _ _), evs, e1, Z.fin, Out.bind, Out.bindL, OutL.bind, OutL.bindL, Out.get, bltD]
  rw [eb, sq_nx ((ex_ifF et).trans rfl), sq_rt (ex_ret er)]
  rfl
theorem astup_flat {i : Nat} (hi : 1 ≤ i) {d : D} (hp : pl d = true) (hq : seqD d = none) : Z.Cl prg (i + 1) ("as_tuples", 1, []) [d] s = .ok d s := by
  rw [Cl_eq (d := d_as_tuples) (ρ := [.im d, .un]) rfl]
  have r1 := is_sequence_ok (P := prg) (i := i) (s := s) hi hp (lo := 0) (hi := none)
  rw [← is_sequence_1, isSq_none hq] at r1
  simp only [d_as_tuples, b_as_tuples, ex, exs, ev, evs, evO, evI, fin, Out.bind, Out.bindL, OutL.bind, OutL.bindL, Out.fl, OutL.fl, Fl.seq, Out.get, bindT, bindTs, callO_L, Ou.out_ok, Ou.out_exc, List.getElem?_cons_zero, List.getElem?_cons_succ, List.set_cons_zero, List.set_cons_succ, List.length_cons, List.length_nil, Option.map_some, cmpD, eqS_i, eqS_s, eqS_b, binD, bltD, ixD, truth, isTys, isTy, flatD, isNon, isLst, itemsOf, Nat.zero_add, Nat.reduceAdd, Nat.reduceLT, Nat.reduceLeDiff, if_true, if_false, reduceIte, decide_true, decide_false, Bool.not_true, Bool.not_false, runR, and_self, suF, suB, unX, unX1, List.map_cons, List.map_nil, sliD, partD, r1]
theorem astup_ok : ∀ {k i : Nat} {d : D}, k + 2 ≤ i → tp false k d = true → Z.Cl prg i ("as_tuples", 1, []) [d] s = .ok d s ∧ Z.Cl prg i ("as_tuples", 1, []) [li d] s = .ok d s := by
  intro k
  induction k with
  | zero =>
    intro i d hi h
    obtain ⟨i, rfl⟩ : ∃ j, i = j + 1 := ⟨i - 1, by omega⟩
    rcases tp_kinds h with ⟨j, xs, e, _⟩ | ⟨e, e2, e3⟩
    · cases e
    · rw [e]
      exact ⟨astup_flat (by omega) (tp_pl h) e2, astup_flat (by omega) (tp_pl h) e2⟩
  | succ k ih =>
    intro i d hi h
    obtain ⟨i, rfl⟩ : ∃ j, i = j + 1 := ⟨i - 1, by omega⟩
    rcases tp_kinds h with ⟨j, xs, e, rfl, hm, hl⟩ | ⟨e, e2, e3⟩
    · cases e
      constructor
      · have := astup_gen (s := s) (i := i) (by omega) (d := .tup xs) (xs := xs) (fun x => x) (fun x => x) rfl (by simp [seqD]) hl fun x hx => (ih (i := i) (by omega) (hm x hx)).1
        simpa using this
      · rw [li_tup]
        have := astup_gen (s := s) (i := i) (by omega) (d := .lst (xs.map li)) (xs := xs) li (fun x => x) rfl rfl hl fun x hx => (ih (i := i) (by omega) (hm x hx)).2
        simpa using this
    · rw [e]
      exact ⟨astup_flat (by omega) (tp_pl h) e2, astup_flat (by omega) (tp_pl h) e2⟩
def saE : Ex := .lc [1, 0] [2] (.nm 2) (.rng1 (.blt .len [(.bv 1)])) none (.call ("_law_same", 2, []) [false, false] [(.ix (.bv 0) (.bv 2)), (.ix (.bv 1) (.bv 2))])
theorem same_flat {i : Nat} (hi : 1 ≤ i) {d : D} (h : d = .non ∨ (∃ b, d = .bl b) ∨ (∃ n, d = .int n) ∨ ∃ z, d = .str z) : Z.Cl prg i ("_law_same", 2, []) [d, d] s = .ok (.bl true) s := by
  obtain ⟨i, rfl⟩ : ∃ j, i = j + 1 := ⟨i - 1, by omega⟩
  rw [Cl_eq (d := d__law_same) (ρ := [.im d, .im d, .un]) rfl]
  rcases h with rfl | ⟨b, rfl⟩ | ⟨n, rfl⟩ | ⟨z, rfl⟩ <;> simp only [d__law_same, b__law_same, ex, exs, ev, evs, evO, evI, fin, Out.bind, Out.bindL, OutL.bind, OutL.bindL, Out.fl, OutL.fl, Fl.seq, Out.get, bindT, bindTs, callO_L, Ou.out_ok, Ou.out_exc, List.getElem?_cons_zero, List.getElem?_cons_succ, List.set_cons_zero, List.set_cons_succ, List.length_cons, List.length_nil, Option.map_some, cmpD, eqS_i, eqS_s, eqS_b, binD, bltD, ixD, truth, isTys, isTy, flatD, isNon, isLst, itemsOf, Nat.zero_add, Nat.reduceAdd, Nat.reduceLT, Nat.reduceLeDiff, if_true, if_false, reduceIte, decide_true, decide_false, Bool.not_true, Bool.not_false, runR, and_self, suF, suB, unX, unX1, List.map_cons, List.map_nil, sliD, partD, cmpD, isNon]
theorem same_ok : ∀ {k i : Nat} {d : D}, k + 1 ≤ i → tp false k d = true → Z.Cl prg i ("_law_same", 2, []) [d, d] s = .ok (.bl true) s := by
  intro k
  induction k with
  | zero =>
    intro i d hi h
    rcases tp_kinds h with ⟨j, xs, e, _⟩ | ⟨e, e2, e3⟩
    · cases e
    · exact same_flat (by omega) e3
  | succ k ih =>
    intro i d hi h
    rcases tp_kinds h with ⟨j, xs, e, rfl, hm, hl⟩ | ⟨e, e2, e3⟩
    · cases e
      obtain ⟨i, rfl⟩ : ∃ j, i = j + 1 := ⟨i - 1, by omega⟩
      rw [Cl_eq (d := d__law_same) (ρ := [.im (.tup xs), .im (.tup xs), .un]) rfl]
      have e1 : ev (fnL prg i) saE false [.im (.tup xs), .im (.tup xs), .un] s = .ok (.lst ((List.range xs.length).map fun _ => D.bl true)) [.im (.tup xs), .im (.tup xs), .un] s := by
        refine ev_lc (ρ9 := []) (x := .lst (rangeD 0 xs.length)) (xs := rangeD 0 xs.length) (ρ' := [.im (.tup xs), .im (.tup xs), .un]) (s' := s) ?_ rfl ?_ (by simp [cap]; omega)
        · have : ((xs.length : Nat) : Int) ≤ 100000 ∧ -100000 ≤ ((xs.length : Nat) : Int) := by omega
          simp only [ex, exs, ev, evs, evO, evI, fin, Out.bind, Out.bindL, OutL.bind, OutL.bindL, Out.fl, OutL.fl, Fl.seq, Out.get, bindT, bindTs, callO_L, Ou.out_ok, Ou.out_exc, List.getElem?_cons_zero, List.getElem?_cons_succ, List.set_cons_zero, List.set_cons_succ, List.length_cons, List.length_nil, Option.map_some, cmpD, eqS_i, eqS_s, eqS_b, binD, bltD, ixD, truth, isTys, isTy, flatD, isNon, isLst, itemsOf, Nat.zero_add, Nat.reduceAdd, Nat.reduceLT, Nat.reduceLeDiff, if_true, if_false, reduceIte, decide_true, decide_false, Bool.not_true, Bool.not_false, runR, and_self, suF, suB, unX, unX1, List.map_cons, List.map_nil, sliD, partD, this, Int.toNat_natCast]
        · have := goL_map (s := s) (f := lcF (fnL prg i) (blkE (Z.frzAt [.im (.tup xs), .im (.tup xs), .un] [1, 0]) [2]) (.nm 2) none (.call ("_law_same", 2, []) [false, false] [(.ix (.bv 0) (.bv 2)), (.ix (.bv 1) (.bv 2))])) (a := fun m : Nat => D.int (0 + (m : Int))) (b := fun _ => D.bl true) (List.range xs.length) fun m hm2 => ⟨[], by
            have hlt := List.mem_range.mp hm2
            have e := ih (i := i) (by omega) (hm xs[m] (List.getElem_mem hlt))
            have ea : atI xs (m : Int) = some xs[m] := atI_nat (List.getElem?_eq_getElem hlt)
            have eb : blkE (Z.frzAt [.im (.tup xs), .im (.tup xs), .un] [1, 0]) [2] = [.im (.tup xs), .im (.tup xs), .un] := rfl
            rw [eb]
            simp only [lcF, ex, exs, ev, evs, evO, evI, fin, Out.bind, Out.bindL, OutL.bind, OutL.bindL, Out.fl, OutL.fl, Fl.seq, Out.get, bindT, bindTs, callO_L, Ou.out_ok, Ou.out_exc, List.getElem?_cons_zero, List.getElem?_cons_succ, List.set_cons_zero, List.set_cons_succ, List.length_cons, List.length_nil, Option.map_some, cmpD, eqS_i, eqS_s, eqS_b, binD, bltD, ixD, truth, isTys, isTy, flatD, isNon, isLst, itemsOf, Nat.zero_add, Nat.reduceAdd, Nat.reduceLT, Nat.reduceLeDiff, if_true, if_false, reduceIte, decide_true, decide_false, Bool.not_true, Bool.not_false, runR, and_self, suF, suB, unX, unX1, List.map_cons, List.map_nil, sliD, partD, Int.zero_add, ea, e]⟩
          exact this
      have hb : ((List.range xs.length).map fun _ => true).all id = true := by simp
      have hm3 : ((List.range xs.length).map fun _ => D.bl true) = ((List.range xs.length).map fun _ => true).map D.bl := by rw [List.map_map]; rfl
      rw [hm3] at e1
      have ea : ev (fnL prg i) (.blt .all [saE]) false [.im (.tup xs), .im (.tup xs), .un] s = .ok (.bl true) [.im (.tup xs), .im (.tup xs), .un] s := by
        simp only [ev.eq_def (fnL prg i) (.blt _ _), evs, e1, Z.fin, Out.bind, Out.bindL, OutL.bind, OutL.bindL, Out.get, bltD, bls_map, Option.map_some, hb]
      have eb : d__law_same.body = .ife (.isi (.bv 1) [.tuple]) [.ife (.orr (.nt (.isi (.bv 0) [.tuple])) (.cmp .ne (.blt .len [(.bv 0)]) (.blt .len [(.bv 1)]))) [.ret (.c (.bl false))] [], .ret (.blt .all [saE])] [] :: d__law_same.body.tail := rfl
      have et : ev (fnL prg i) (.isi (.bv 1) [.tuple]) true [.im (.tup xs), .im (.tup xs), .un] s = .ok (.bl true) [.im (.tup xs), .im (.tup xs), .un] s := by simp only [ex, exs, ev, evs, evO, evI, fin, Out.bind, Out.bindL, OutL.bind, OutL.bindL, Out.fl, OutL.fl, Fl.seq, Out.get, bindT, bindTs, callO_L, Ou.out_ok, Ou.out_exc, List.getElem?_cons_zero, List.getElem?_cons_succ, List.set_cons_zero, List.set_cons_succ, List.length_cons, List.length_nil, Option.map_some, cmpD, eqS_i, eqS_s, eqS_b, binD, bltD, ixD, truth, isTys, isTy, flatD, isNon, isLst, itemsOf, Nat.zero_add, Nat.reduceAdd, Nat.reduceLT, Nat.reduceLeDiff, if_true, if_false, reduceIte, decide_true, decide_false, Bool.not_true, Bool.not_false, runR, and_self, suF, suB, unX, unX1, List.map_cons, List.map_nil, sliD, partD]
      have e2 : ev (fnL prg i) (.orr (.nt (.isi (.bv 0) [.tuple])) (.cmp .ne (.blt .len [(.bv 0)]) (.blt .len [(.bv 1)]))) true [.im (.tup xs), .im (.tup xs), .un] s = .ok (.bl false) [.im (.tup xs), .im (.tup xs), .un] s := by simp only [ex, exs, ev, evs, evO, evI, fin, Out.bind, Out.bindL, OutL.bind, OutL.bindL, Out.fl, OutL.fl, Fl.seq, Out.get, bindT, bindTs, callO_L, Ou.out_ok, Ou.out_exc, List.getElem?_cons_zero, List.getElem?_cons_succ, List.set_cons_zero, List.set_cons_succ, List.length_cons, List.length_nil, Option.map_some, cmpD, eqS_i, eqS_s, eqS_b, binD, bltD, ixD, truth, isTys, isTy, flatD, isNon, isLst, itemsOf, Nat.zero_add, Nat.reduceAdd, Nat.reduceLT, Nat.reduceLeDiff, if_true, if_false, reduceIte, decide_true, decide_false, Bool.not_true, Bool.not_false, runR, and_self, suF, suB, unX, unX1, List.map_cons, List.map_nil, sliD, partD]
      rw [eb, sq_rt ((ex_ifT et).trans ((sq_nx ((ex_ifF e2).trans rfl)).trans (sq_rt (ex_ret ea))))]
      rfl
    · exact same_flat (by omega) e3
/-! what is told -/
def toldD (f : Option Str) (d : D) : D := .tup [.bl (decide (f = none)), match f with | none => d | some z => .str z]
theorem told_ok {k i : Nat} {d h : D} (hi : k + 10 ≤ i) (hk : k ≤ 60) (ht : tp false k d = true) (hh : h = d ∨ h = li d) : Z.Cl prg i ("_law_told", 2, []) [.int w, h] s = .ok (toldD (faultF w 3 d) d) s := by
  obtain ⟨i, rfl⟩ : ∃ j, i = j + 1 + 1 := ⟨i - 2, by omega⟩
  have c1 : Z.Cl prg i ("_check_within", 3, []) [.int w, h, .int 1] s = oE (faultF w 3 d) s := by
    rcases hh with rfl | rfl
    · exact within_ok 3 (by omega) (by omega) ht hk
    · rw [← fault_li 3 ht]
      exact within_ok 3 (by omega) (by omega) (tp_li ht) hk
  have c2 : Z.Cl prg i ("as_tuples", 1, []) [h] s = .ok d s := by
    rcases hh with rfl | rfl
    · exact (astup_ok (by omega) ht).1
    · exact (astup_ok (by omega) ht).2
  have cs : Z.Cl prg (i + 1) ("check_saying", 2, []) [.int w, h] s = match faultF w 3 d with | none => .ok d s | some z => .exc 35 (whatX z) s := by
    rw [Cl_eq (d := d_check_saying) (ρ := [.im (.int w), .im h]) rfl]
    cases q : faultF w 3 d with
    | none =>
      rw [q] at c1
      simp only [d_check_saying, b_check_saying, ex, exs, ev, evs, evO, evI, fin, Out.bind, Out.bindL, OutL.bind, OutL.bindL, Out.fl, OutL.fl, Fl.seq, Out.get, bindT, bindTs, callO_L, Ou.out_ok, Ou.out_exc, List.getElem?_cons_zero, List.getElem?_cons_succ, List.set_cons_zero, List.set_cons_succ, List.length_cons, List.length_nil, Option.map_some, cmpD, eqS_i, eqS_s, eqS_b, binD, bltD, ixD, truth, isTys, isTy, flatD, isNon, isLst, itemsOf, Nat.zero_add, Nat.reduceAdd, Nat.reduceLT, Nat.reduceLeDiff, if_true, if_false, reduceIte, decide_true, decide_false, Bool.not_true, Bool.not_false, runR, and_self, suF, suB, unX, unX1, List.map_cons, List.map_nil, sliD, partD, c1, c2, oE]
    | some z =>
      rw [q] at c1
      simp only [d_check_saying, b_check_saying, ex, exs, ev, evs, evO, evI, fin, Out.bind, Out.bindL, OutL.bind, OutL.bindL, Out.fl, OutL.fl, Fl.seq, Out.get, bindT, bindTs, callO_L, Ou.out_ok, Ou.out_exc, List.getElem?_cons_zero, List.getElem?_cons_succ, List.set_cons_zero, List.set_cons_succ, List.length_cons, List.length_nil, Option.map_some, cmpD, eqS_i, eqS_s, eqS_b, binD, bltD, ixD, truth, isTys, isTy, flatD, isNon, isLst, itemsOf, Nat.zero_add, Nat.reduceAdd, Nat.reduceLT, Nat.reduceLeDiff, if_true, if_false, reduceIte, decide_true, decide_false, Bool.not_true, Bool.not_false, runR, and_self, suF, suB, unX, unX1, List.map_cons, List.map_nil, sliD, partD, c1, oE]
  rw [Cl_eq (d := d__law_told) (ρ := [.im (.int w), .im h, .un]) rfl]
  have k2 : cap 2 = true := rfl
  have n1 : ([0, 1, 2, 3, 4, 5, 6, 7, 8, 9, 10, 11, 12, 13, 14, 15, 16, 17, 18, 19, 20, 21, 22, 23, 24, 25, 26, 27, 28, 29, 30, 31, 32, 33, 34, 35, 36, 37, 38, 39, 40] : List Nat).contains 35 = true := rfl
  have n2 : ([35] : List Nat).contains 35 = true := rfl
  have n3 : ([5] : List Nat).contains 35 = false := rfl
  cases q : faultF w 3 d with
  | none =>
    rw [q] at cs
    simp only [d__law_told, b__law_told, ex, exs, ev, evs, evO, evI, fin, Out.bind, Out.bindL, OutL.bind, OutL.bindL, Out.fl, OutL.fl, Fl.seq, Out.get, bindT, bindTs, callO_L, Ou.out_ok, Ou.out_exc, List.getElem?_cons_zero, List.getElem?_cons_succ, List.set_cons_zero, List.set_cons_succ, List.length_cons, List.length_nil, Option.map_some, cmpD, eqS_i, eqS_s, eqS_b, binD, bltD, ixD, truth, isTys, isTy, flatD, isNon, isLst, itemsOf, Nat.zero_add, Nat.reduceAdd, Nat.reduceLT, Nat.reduceLeDiff, if_true, if_false, reduceIte, decide_true, decide_false, Bool.not_true, Bool.not_false, runR, and_self, suF, suB, unX, unX1, List.map_cons, List.map_nil, sliD, partD, cs, k2, toldD]
  | some z =>
    rw [q] at cs
    simp only [d__law_told, b__law_told, ex, exs, ev, evs, evO, evI, fin, Out.bind, Out.bindL, OutL.bind, OutL.bindL, Out.fl, OutL.fl, Fl.seq, Out.get, bindT, bindTs, callO_L, Ou.out_ok, Ou.out_exc, List.getElem?_cons_zero, List.getElem?_cons_succ, List.set_cons_zero, List.set_cons_succ, List.length_cons, List.length_nil, Option.map_some, cmpD, eqS_i, eqS_s, eqS_b, binD, bltD, ixD, truth, isTys, isTy, flatD, isNon, isLst, itemsOf, Nat.zero_add, Nat.reduceAdd, Nat.reduceLT, Nat.reduceLeDiff, if_true, if_false, reduceIte, decide_true, decide_false, Bool.not_true, Bool.not_false, runR, and_self, suF, suB, unX, unX1, List.map_cons, List.map_nil, sliD, partD, cs, k2, n1, n2, n3, whatX, List.lookup_cons, beq_self_eq_true, toldD]
    rfl
end
end K49

namespace K49
open PySem PySem.Spec PyProof.Rows L2 Z Lb
/-! how much it weighs, and that repr shows it -/
mutual
def wt : D → Nat
  | .tup xs => 1 + wts xs
  | .lst xs => 1 + wts xs
  | _ => 1
def wts : List D → Nat
  | [] => 0
  | d :: ds => wt d + wts ds
end
theorem wt_tup (xs : List D) : wt (.tup xs) = 1 + wts xs := by rw [wt]
theorem wt_lst (xs : List D) : wt (.lst xs) = 1 + wts xs := by rw [wt]
theorem wts_cons (x : D) (xs : List D) : wts (x :: xs) = wt x + wts xs := by rw [wts]
theorem wts_nil : wts [] = 0 := by rw [wts]
theorem wts_app (a b : List D) : wts (a ++ b) = wts a + wts b := by
  induction a with
  | nil => rw [List.nil_append, wts_nil]; omega
  | cons x a ih => rw [List.cons_append, wts_cons, wts_cons, ih]; omega
theorem wt_flat {d : D} (h : seqD d = none) : wt d = 1 := by cases d <;> first | (cases h; done) | simp [wt]
theorem wt_pos (d : D) : 1 ≤ wt d := by
  cases d with
  | tup xs => rw [wt_tup]; omega
  | lst xs => rw [wt_lst]; omega
  | _ => rw [wt_flat rfl]; exact Nat.le_refl _
theorem wts_map {f : D → D} : ∀ {xs : List D}, (∀ x ∈ xs, wt (f x) = wt x) → wts (xs.map f) = wts xs
  | [], _ => rfl
  | x :: xs, h => by rw [List.map_cons, wts_cons, wts_cons, h x (by simp), wts_map fun y hy => h y (by simp [hy])]
theorem len_wts (xs : List D) : xs.length ≤ wts xs := by
  induction xs with
  | nil => simp
  | cons x xs ih =>
    rw [wts_cons, List.length_cons]
    have := wt_pos x
    omega
theorem wt_mem {x : D} {xs : List D} (h : x ∈ xs) : wt x ≤ wts xs := by
  induction xs with
  | nil => cases h
  | cons y xs ih =>
    rw [wts_cons]
    rcases List.mem_cons.mp h with rfl | h
    · omega
    · have := ih h; omega
theorem wt_li : ∀ {k : Nat} {d : D}, tp false k d = true → wt (li d) = wt d := by
  intro k
  induction k with
  | zero =>
    intro d h
    rcases tp_kinds h with ⟨j, xs, e, _⟩ | ⟨e, _⟩
    · cases e
    · rw [e]
  | succ k ih =>
    intro d h
    rcases tp_kinds h with ⟨j, xs, e, rfl, hm, _⟩ | ⟨e, _⟩
    · cases e
      rw [li_tup, wt_lst, wt_tup]
      rw [wts_map fun x hx => ih (hm x hx)]
    · rw [e]
structure Shows (x : PyData) (n : Nat) : Prop where
  sh : x.showable = true
  nd : x.hasDict = false
  ls : x.leavesShort 13 = true
  wg : x.weight + 1 ≤ 22 * n
theorem log2_lt {n k : Nat} (h : n < 2 ^ k) (hk : 0 < k) : n.log2 < k := by
  by_cases c : n = 0
  · subst c; simpa using hk
  · exact (Nat.log2_lt c).mpr h
theorem shows_ok {l : Bool} : ∀ {k : Nat} {d : D}, tp l k d = true → ∃ x, py d = some x ∧ Shows x (wt d) := by
  have flat : ∀ {k : Nat} {d : D}, tp l k d = true → seqD d = none → ∃ x, py d = some x ∧ Shows x (wt d) := fun {k d} h e => by
    cases d with
    | non => exact ⟨_, rfl, by decide, by decide, by decide, by rw [wt_flat rfl]; decide⟩
    | bl b => exact ⟨_, rfl, by cases b <;> decide, by cases b <;> decide, by cases b <;> decide, by rw [wt_flat rfl]; cases b <;> decide⟩
    | int i =>
      have hi : i.natAbs ≤ 1000000 := by cases k <;> exact of_decide_eq_true h
      have e10 : (10 : Nat) ^ 12 = 1000000000000 := by decide
      have l1 : i.natAbs.log2 < 20 := log2_lt (by have : (2 : Nat) ^ 20 = 1048576 := by decide
                                                  omega) (by decide)
      refine ⟨_, rfl, ?_, rfl, ?_, ?_⟩
      · show decide _ = true
        exact decide_eq_true (by omega)
      · show decide _ = true
        exact decide_eq_true (PyData.shown_int_le (by omega))
      · rw [wt_flat rfl]
        show (if i == 0 then 0 else i.natAbs.log2 + 1) + 1 ≤ 22 * 1
        split <;> omega
    | str z =>
      have hz : wds.contains z = true := by cases k <;> exact h
      rw [wt_flat rfl]
      rcases wd_ok hz with rfl | rfl | rfl | rfl | rfl | rfl <;> exact ⟨_, rfl, by decide +kernel, by decide +kernel, by decide +kernel, by decide +kernel⟩
    | tup xs => cases e
    | lst xs => cases e
    | _ => cases k <;> cases h
  intro k
  induction k with
  | zero =>
    intro d h
    cases q : seqD d with
    | none => exact flat h q
    | some xs => obtain ⟨j, e, _⟩ := tp_items h q; cases e
  | succ k ih =>
    intro d h
    cases q : seqD d with
    | none => exact flat h q
    | some xs =>
      obtain ⟨j, e, _, hm⟩ := tp_items h q
      cases e
      have key : ∀ xs : List D, (∀ x ∈ xs, tp l k x = true) → ∃ ys, pys xs = some ys ∧ PyData.showableAll ys = true ∧ PyData.hasDictAll ys = false ∧ PyData.leavesShortAll 13 ys = true ∧ PyData.weightAll ys ≤ 22 * wts xs := by
        intro xs
        induction xs with
        | nil => intro _; exact ⟨[], rfl, rfl, rfl, rfl, by simp [PyData.weightAll]⟩
        | cons x xs ihx =>
          intro hx
          obtain ⟨y, e1, s1⟩ := ih (hx x (by simp))
          obtain ⟨ys, e2, t1, t2, t3, t4⟩ := ihx fun z hz => hx z (by simp [hz])
          refine ⟨y :: ys, by rw [pys, e1, e2], by rw [PyData.showableAll, s1.sh, t1]; rfl, by rw [PyData.hasDictAll, s1.nd, t2]; rfl, by rw [PyData.leavesShortAll, s1.ls, t3]; rfl, ?_⟩
          rw [PyData.weightAll, wts_cons]
          have := s1.wg
          omega
      obtain ⟨ys, e2, t1, t2, t3, t4⟩ := key xs hm
      cases d with
      | tup zs =>
        cases q
        refine ⟨.tuple ys, by rw [py, e2]; rfl, t1, t2, t3, ?_⟩
        rw [wt_tup]
        show PyData.weightAll ys + 1 ≤ _
        omega
      | lst zs =>
        cases q
        refine ⟨.list ys, by rw [py, e2]; rfl, t1, t2, t3, ?_⟩
        rw [wt_lst]
        show PyData.weightAll ys + 1 ≤ _
        omega
      | _ => cases q
theorem repr_ok {l : Bool} {k : Nat} {d : D} (h : tp l k d = true) (hk : k ≤ 60) (hw : wt d ≤ 40000) : ∃ z, ∀ s, bltD s .repr [d] = some (.str z) := by
  obtain ⟨x, e, s1⟩ := shows_ok h
  obtain ⟨y, e2, _, h3⟩ := okE_py (tp_okE h)
  rw [e] at e2
  cases e2
  refine ⟨x.shown, fun s => ?_⟩
  have hf : x.shown.length ≤ sizeLine := PyData.shown_fits (by decide) (by decide) s1.ls (by
    have := s1.wg
    have e20 : (2 : Nat) ^ 20 = 1048576 := by decide
    omega)
  have hr : reprOk x = true := by
    unfold reprOk
    rw [s1.sh, s1.nd, decide_eq_true (show x.depth ≤ 60 by omega), decide_eq_true hf]
    rfl
  show (match py d with | some x => if reprOk x then some (D.str x.shown) else none | none => none) = _
  rw [e]
  dsimp only
  rw [if_pos hr]
end K49

namespace K49
open PySem PySem.Spec PyProof.Rows L2 Z Lb
/-! what is drawn -/
structure Sd (k W : Nat) (d : D) : Prop where
  tp : tp false k d = true
  wt : wt d ≤ W
theorem tp_up : ∀ {k : Nat} {d : D}, tp false k d = true → tp false (k + 1) d = true := by
  intro k
  induction k with
  | zero =>
    intro d h
    rcases tp_kinds h with ⟨j, xs, e, _⟩ | ⟨_, e2, _⟩
    · cases e
    · cases d <;> first | exact h | (cases e2; done) | (cases h; done)
  | succ k ih =>
    intro d h
    rcases tp_kinds h with ⟨j, xs, e, rfl, hm, hl⟩ | ⟨_, e2, _⟩
    · cases e
      rw [tp_tup, decide_eq_true hl, Bool.and_true, List.all_eq_true]
      exact fun x hx => ih (hm x hx)
    · cases d <;> first | exact h | (cases e2; done) | (cases h; done)
theorem tp_ups {j k : Nat} {d : D} (h : tp false j d = true) (e : j ≤ k) : tp false k d = true := by
  induction k with
  | zero => have : j = 0 := by omega
            subst this; exact h
  | succ k ih =>
    by_cases c : j = k + 1
    · subst c; exact h
    · exact tp_up (ih (by omega))
theorem Sd.mono {j k V W : Nat} {d : D} (h : Sd j V d) (e1 : j ≤ k) (e2 : V ≤ W) : Sd k W d := ⟨tp_ups h.tp e1, Nat.le_trans h.wt e2⟩
theorem Sd.tup {k W : Nat} {xs : List D} (h : ∀ x ∈ xs, K49.tp false k x = true) (hw : wts xs + 1 ≤ W) (hW : W ≤ 50000) : Sd (k + 1) W (.tup xs) := by
  refine ⟨?_, by rw [wt_tup]; omega⟩
  have := len_wts xs
  rw [tp_tup, decide_eq_true (show xs.length ≤ 50000 by omega), Bool.and_true, List.all_eq_true]
  exact h
theorem Sd.int {n : Int} {k W : Nat} (h : n.natAbs ≤ 1000000) (hW : 1 ≤ W) : Sd k W (.int n) := ⟨by cases k <;> exact decide_eq_true h, by rw [wt_flat rfl]; exact hW⟩
theorem Sd.str {z : Str} {k W : Nat} (h : wds.contains z = true) (hW : 1 ≤ W) : Sd k W (.str z) := ⟨by cases k <;> exact h, by rw [wt_flat rfl]; exact hW⟩
section
variable {i : Nat} {n : Int} {d : D}
theorem pick_ok (hi : 2 ≤ i) (h : WF n d) (hn : n ≤ 900000) {xs : List D} (h0 : xs ≠ []) (hl : xs.length ≤ 50000) : ∃ (x : D) (d' : D), x ∈ xs ∧ Z.Cl prg i ("_law_pick", 2, []) [.mref 0, .lst xs] [d] = .ok x [d'] ∧ WF (n + 1) d' := by
  obtain ⟨i, rfl⟩ : ∃ j, i = j + 1 := ⟨i - 1, by omega⟩
  have hlen : 1 ≤ xs.length := by cases xs; exact absurd rfl h0; simp
  have h60 : ((xs.length : Nat) : Int) < 10 ^ 60 := by
    have : (50001 : Int) < 10 ^ 60 := by decide
    omega
  obtain ⟨r, d1, e1, w1, hr⟩ := draw_nat (P := prg) (i := i) (k := xs.length) (by omega) hlen h (by omega) h60
  refine ⟨xs[r], d1, List.getElem_mem hr, ?_, w1⟩
  have ea : atI xs (r : Int) = some xs[r] := atI_nat (List.getElem?_eq_getElem hr)
  rw [Cl_eq (d := d__law_pick) (ρ := [.im (.mref 0), .im (.lst xs)]) rfl]
  have ix : ∀ s, ixD s (.lst xs) (.int (r : Int)) = some xs[r] := fun _ => ea
  simp only [d__law_pick, b__law_pick, ex, exs, ev, evs, evO, evI, fin, Out.bind, Out.bindL, OutL.bind, OutL.bindL, Out.fl, OutL.fl, Fl.seq, Out.get, bindT, bindTs, callO_L, Ou.out_ok, Ou.out_exc, List.getElem?_cons_zero, List.getElem?_cons_succ, List.set_cons_zero, List.set_cons_succ, List.length_cons, List.length_nil, Option.map_some, cmpD, eqS_i, eqS_s, eqS_b, binD, bltD, truth, isTys, isTy, flatD, isNon, isLst, itemsOf, Nat.zero_add, Nat.reduceAdd, Nat.reduceLT, Nat.reduceLeDiff, if_true, if_false, reduceIte, decide_true, decide_false, Bool.not_true, Bool.not_false, runR, and_self, suF, suB, unX, unX1, List.map_cons, List.map_nil, sliD, partD, e1, ix]
/-! sayings -/
def tmB : List Stm := [
    .asg (.nm 5) (.ife (.bv 2) (.bin .sub (.call ("_law_draw", 2, []) [false, false] [(.v 0), (.c (.int 1998))]) (.c (.int 999))) (.bin .sub (.call ("_law_draw", 2, []) [false, false] [(.v 0), (.c (.int 6))]) (.c (.int 3)))),
    .ife (.cmp .ge (.bv 5) (.c (.int 0))) [
      .asg (.nm 5) (.bin .add (.bv 5) (.c (.int 1)))] [],
    .app 3 (.tup [(.v 5), (.bin .sub (.call ("_law_draw", 2, []) [false, false] [(.v 0), (.bin .add (.bv 1) (.c (.int 1)))]) (.c (.int 1)))])]
theorem tm_turn (hi : 1 ≤ i) {w : Nat} {b : Bool} {acc : List D} {z4 z5 : Sl} (hw : w ≤ 4) (ha : acc.length ≤ 5) (h : WF n d) (hn : n ≤ 900000) : ∃ (f x : Int) (d' : D) (z : Sl), exs (fnL prg i) tmB [.im (.mref 0), .im (.int (w : Nat)), .im (.bl b), .ow (.lst acc), z4, z5] [d] = .nx [.im (.mref 0), .im (.int (w : Nat)), .im (.bl b), .ow (.lst (acc ++ [.tup [.int f, .int x]])), z4, z] [d'] ∧ WF (n + 2) d' ∧ f.natAbs ≤ 1000 ∧ x.natAbs ≤ 10 := by
  have hl : acc.length < 100000 := by omega
  have c2 : cap 2 = true := rfl
  obtain ⟨f, d1, w1, hf, e1⟩ : ∃ (f : Int) (d1 : D), WF (n + 1) d1 ∧ (-999 ≤ f ∧ f ≤ 999) ∧ ev (fnL prg i) (.ife (.bv 2) (.bin .sub (.call ("_law_draw", 2, []) [false, false] [(.v 0), (.c (.int 1998))]) (.c (.int 999))) (.bin .sub (.call ("_law_draw", 2, []) [false, false] [(.v 0), (.c (.int 6))]) (.c (.int 3)))) false [.im (.mref 0), .im (.int (w : Nat)), .im (.bl b), .ow (.lst acc), z4, z5] [d] = .ok (.int f) [.im (.mref 0), .im (.int (w : Nat)), .im (.bl b), .ow (.lst acc), z4, z5] [d1] := by
    cases b with
    | true =>
      obtain ⟨r, d1, e1, w1, r1⟩ := draw_nat (P := prg) (i := i) (k := 1998) hi (by decide) h (by omega) (by decide)
      have e1 : Z.Cl prg i ("_law_draw", 2, []) [.mref 0, .int 1998] [d] = .ok (.int (r : Int)) [d1] := e1
      exact ⟨(r : Int) - 999, d1, w1, by omega, by simp only [ex, exs, ev, evs, evO, evI, fin, Out.bind, Out.bindL, OutL.bind, OutL.bindL, Out.fl, OutL.fl, Fl.seq, Out.get, bindT, bindTs, callO_L, Ou.out_ok, Ou.out_exc, List.getElem?_cons_zero, List.getElem?_cons_succ, List.set_cons_zero, List.set_cons_succ, List.length_cons, List.length_nil, Option.map_some, cmpD, eqS_i, eqS_s, eqS_b, binD, bltD, truth, isTys, isTy, flatD, isNon, isLst, itemsOf, Nat.zero_add, Nat.reduceAdd, Nat.reduceLT, Nat.reduceLeDiff, if_true, if_false, reduceIte, decide_true, decide_false, Bool.not_true, Bool.not_false, runR, and_self, suF, suB, unX, unX1, List.map_cons, List.map_nil, sliD, partD, e1]⟩
    | false =>
      obtain ⟨r, d1, e1, w1, r1⟩ := draw_nat (P := prg) (i := i) (k := 6) hi (by decide) h (by omega) (by decide)
      have e1 : Z.Cl prg i ("_law_draw", 2, []) [.mref 0, .int 6] [d] = .ok (.int (r : Int)) [d1] := e1
      exact ⟨(r : Int) - 3, d1, w1, by omega, by simp only [ex, exs, ev, evs, evO, evI, fin, Out.bind, Out.bindL, OutL.bind, OutL.bindL, Out.fl, OutL.fl, Fl.seq, Out.get, bindT, bindTs, callO_L, Ou.out_ok, Ou.out_exc, List.getElem?_cons_zero, List.getElem?_cons_succ, List.set_cons_zero, List.set_cons_succ, List.length_cons, List.length_nil, Option.map_some, cmpD, eqS_i, eqS_s, eqS_b, binD, bltD, truth, isTys, isTy, flatD, isNon, isLst, itemsOf, Nat.zero_add, Nat.reduceAdd, Nat.reduceLT, Nat.reduceLeDiff, if_true, if_false, reduceIte, decide_true, decide_false, Bool.not_true, Bool.not_false, runR, and_self, suF, suB, unX, unX1, List.map_cons, List.map_nil, sliD, partD, e1]⟩
  have h60 : ((w + 1 : Nat) : Int) < 10 ^ 60 := by
    have : (6 : Int) < 10 ^ 60 := by decide
    omega
  obtain ⟨x, d2, e2, w2, x1⟩ := draw_nat (P := prg) (i := i) (k := w + 1) hi (by omega) w1 (by omega) h60
  have e2 : Z.Cl prg i ("_law_draw", 2, []) [.mref 0, .int ((w : Int) + 1)] [d1] = .ok (.int (x : Int)) [d2] := by
    rw [← e2]; congr 3
  unfold tmB
  by_cases c : 0 ≤ f
  · refine ⟨f + 1, (x : Int) - 1, d2, .im (.int (f + 1)), ?_, w2.mono (by omega), by omega, by omega⟩
    rw [sq_nx (ρ' := [.im (.mref 0), .im (.int (w : Nat)), .im (.bl b), .ow (.lst acc), z4, .im (.int f)]) (s' := [d1]) (ex_asg e1 rfl)]
    rw [sq_nx (ρ' := [.im (.mref 0), .im (.int (w : Nat)), .im (.bl b), .ow (.lst acc), z4, .im (.int (f + 1))]) (s' := [d1]) (by simp only [ex, exs, ev, evs, evO, evI, fin, Out.bind, Out.bindL, OutL.bind, OutL.bindL, Out.fl, OutL.fl, Fl.seq, Out.get, bindT, bindTs, callO_L, Ou.out_ok, Ou.out_exc, List.getElem?_cons_zero, List.getElem?_cons_succ, List.set_cons_zero, List.set_cons_succ, List.length_cons, List.length_nil, Option.map_some, cmpD, eqS_i, eqS_s, eqS_b, binD, bltD, truth, isTys, isTy, flatD, isNon, isLst, itemsOf, Nat.zero_add, Nat.reduceAdd, Nat.reduceLT, Nat.reduceLeDiff, if_true, if_false, reduceIte, decide_true, decide_false, Bool.not_true, Bool.not_false, runR, and_self, suF, suB, unX, unX1, List.map_cons, List.map_nil, sliD, partD, c])]
    simp only [ex, exs, ev, evs, evO, evI, fin, Out.bind, Out.bindL, OutL.bind, OutL.bindL, Out.fl, OutL.fl, Fl.seq, Out.get, bindT, bindTs, callO_L, Ou.out_ok, Ou.out_exc, List.getElem?_cons_zero, List.getElem?_cons_succ, List.set_cons_zero, List.set_cons_succ, List.length_cons, List.length_nil, Option.map_some, cmpD, eqS_i, eqS_s, eqS_b, binD, bltD, truth, isTys, isTy, flatD, isNon, isLst, itemsOf, Nat.zero_add, Nat.reduceAdd, Nat.reduceLT, Nat.reduceLeDiff, if_true, if_false, reduceIte, decide_true, decide_false, Bool.not_true, Bool.not_false, runR, and_self, suF, suB, unX, unX1, List.map_cons, List.map_nil, sliD, partD, e2, c2, hl]
  · refine ⟨f, (x : Int) - 1, d2, .im (.int f), ?_, w2.mono (by omega), by omega, by omega⟩
    rw [sq_nx (ρ' := [.im (.mref 0), .im (.int (w : Nat)), .im (.bl b), .ow (.lst acc), z4, .im (.int f)]) (s' := [d1]) (ex_asg e1 rfl)]
    rw [sq_nx (ρ' := [.im (.mref 0), .im (.int (w : Nat)), .im (.bl b), .ow (.lst acc), z4, .im (.int f)]) (s' := [d1]) (by simp only [ex, exs, ev, evs, evO, evI, fin, Out.bind, Out.bindL, OutL.bind, OutL.bindL, Out.fl, OutL.fl, Fl.seq, Out.get, bindT, bindTs, callO_L, Ou.out_ok, Ou.out_exc, List.getElem?_cons_zero, List.getElem?_cons_succ, List.set_cons_zero, List.set_cons_succ, List.length_cons, List.length_nil, Option.map_some, cmpD, eqS_i, eqS_s, eqS_b, binD, bltD, truth, isTys, isTy, flatD, isNon, isLst, itemsOf, Nat.zero_add, Nat.reduceAdd, Nat.reduceLT, Nat.reduceLeDiff, if_true, if_false, reduceIte, decide_true, decide_false, Bool.not_true, Bool.not_false, runR, and_self, suF, suB, unX, unX1, List.map_cons, List.map_nil, sliD, partD, c])]
    simp only [ex, exs, ev, evs, evO, evI, fin, Out.bind, Out.bindL, OutL.bind, OutL.bindL, Out.fl, OutL.fl, Fl.seq, Out.get, bindT, bindTs, callO_L, Ou.out_ok, Ou.out_exc, List.getElem?_cons_zero, List.getElem?_cons_succ, List.set_cons_zero, List.set_cons_succ, List.length_cons, List.length_nil, Option.map_some, cmpD, eqS_i, eqS_s, eqS_b, binD, bltD, truth, isTys, isTy, flatD, isNon, isLst, itemsOf, Nat.zero_add, Nat.reduceAdd, Nat.reduceLT, Nat.reduceLeDiff, if_true, if_false, reduceIte, decide_true, decide_false, Bool.not_true, Bool.not_false, runR, and_self, suF, suB, unX, unX1, List.map_cons, List.map_nil, sliD, partD, e2, c2, hl]
theorem terms_ok (hi : 2 ≤ i) {w : Nat} {b : Bool} (hw : w ≤ 4) (h : WF n d) (hn : n ≤ 800000) : ∃ (t d' : D), Z.Cl prg i ("_law_terms", 3, []) [.mref 0, .int (w : Nat), .bl b] [d] = .ok t [d'] ∧ WF (n + 11) d' ∧ Sd 2 16 t := by
  obtain ⟨i, rfl⟩ : ∃ j, i = j + 1 := ⟨i - 1, by omega⟩
  obtain ⟨m, d1, w1, hm1, hm2, e1⟩ : ∃ (m : Nat) (d1 : D), WF (n + 1) d1 ∧ 1 ≤ m ∧ m ≤ 5 ∧ evI (fnL prg i) (.rng1 (.bin .add (.c (.int 1)) (.call ("_law_draw", 2, []) [false, false] [(.v 0), (.ife (.bv 2) (.c (.int 5)) (.c (.int 3)))]))) [.im (.mref 0), .im (.int (w : Nat)), .im (.bl b), .ow (.lst []), .un, .un] [d] = .ok (.lst (rangeD 0 m)) [.im (.mref 0), .im (.int (w : Nat)), .im (.bl b), .ow (.lst []), .un, .un] [d1] := by
    cases b with
    | true =>
      obtain ⟨r, d1, e1, w1, r1⟩ := draw_nat (P := prg) (i := i) (k := 5) (by omega) (by decide) h (by omega) (by decide)
      have e1 : Z.Cl prg i ("_law_draw", 2, []) [.mref 0, .int 5] [d] = .ok (.int (r : Int)) [d1] := e1
      have c1 : ((1 : Int) + (r : Int) ≤ 100000 ∧ -100000 ≤ (1 : Int) + (r : Int)) := by omega
      have c2 : ((1 : Int) + (r : Int)).toNat = 1 + r := by omega
      exact ⟨1 + r, d1, w1, by omega, by omega, by simp only [ex, exs, ev, evs, evO, evI, fin, Out.bind, Out.bindL, OutL.bind, OutL.bindL, Out.fl, OutL.fl, Fl.seq, Out.get, bindT, bindTs, callO_L, Ou.out_ok, Ou.out_exc, List.getElem?_cons_zero, List.getElem?_cons_succ, List.set_cons_zero, List.set_cons_succ, List.length_cons, List.length_nil, Option.map_some, cmpD, eqS_i, eqS_s, eqS_b, binD, bltD, truth, isTys, isTy, flatD, isNon, isLst, itemsOf, Nat.zero_add, Nat.reduceAdd, Nat.reduceLT, Nat.reduceLeDiff, if_true, if_false, reduceIte, decide_true, decide_false, Bool.not_true, Bool.not_false, runR, and_self, suF, suB, unX, unX1, List.map_cons, List.map_nil, sliD, partD, e1, c1, c2]⟩
    | false =>
      obtain ⟨r, d1, e1, w1, r1⟩ := draw_nat (P := prg) (i := i) (k := 3) (by omega) (by decide) h (by omega) (by decide)
      have e1 : Z.Cl prg i ("_law_draw", 2, []) [.mref 0, .int 3] [d] = .ok (.int (r : Int)) [d1] := e1
      have c1 : ((1 : Int) + (r : Int) ≤ 100000 ∧ -100000 ≤ (1 : Int) + (r : Int)) := by omega
      have c2 : ((1 : Int) + (r : Int)).toNat = 1 + r := by omega
      exact ⟨1 + r, d1, w1, by omega, by omega, by simp only [ex, exs, ev, evs, evO, evI, fin, Out.bind, Out.bindL, OutL.bind, OutL.bindL, Out.fl, OutL.fl, Fl.seq, Out.get, bindT, bindTs, callO_L, Ou.out_ok, Ou.out_exc, List.getElem?_cons_zero, List.getElem?_cons_succ, List.set_cons_zero, List.set_cons_succ, List.length_cons, List.length_nil, Option.map_some, cmpD, eqS_i, eqS_s, eqS_b, binD, bltD, truth, isTys, isTy, flatD, isNon, isLst, itemsOf, Nat.zero_add, Nat.reduceAdd, Nat.reduceLT, Nat.reduceLeDiff, if_true, if_false, reduceIte, decide_true, decide_false, Bool.not_true, Bool.not_false, runR, and_self, suF, suB, unX, unX1, List.map_cons, List.map_nil, sliD, partD, e1, c1, c2]⟩
  have hlr : (rangeD 0 m).length = m := by simp [rangeD]
  obtain ⟨ρ', s', L, acc, z4, z5, d2, q1, q2, q3, q4, q5, q6⟩ := lp_inv (f := lpB (fnL prg i) (.nm 4) tmB) (fun k ρ s' => ∃ (acc : List D) (z4 z5 : Sl) (d2 : D), ρ = [.im (.mref 0), .im (.int (w : Nat)), .im (.bl b), .ow (.lst acc), z4, z5] ∧ s' = [d2] ∧ WF (n + 1 + 2 * k) d2 ∧ acc.length = k ∧ (∀ x ∈ acc, tp false 1 x = true) ∧ wts acc ≤ 3 * k) (rangeD 0 m) 0 (ρ := [.im (.mref 0), .im (.int (w : Nat)), .im (.bl b), .ow (.lst []), .un, .un]) (s := [d1]) ⟨[], .un, .un, d1, rfl, rfl, by simpa using w1, rfl, by simp, by simp [wts_nil]⟩ fun k x ρ s' hx ⟨acc, z4, z5, d2, q1, q2, q3, q4, q5, q6⟩ => by
    have hk : k < m := by have := (List.getElem?_eq_some_iff.mp hx).1; omega
    subst q1 q2
    obtain ⟨f, y, d3, z, t, w3, f1, y1⟩ := tm_turn (i := i) (b := b) (acc := acc) (z4 := .im x) (z5 := z5) (by omega) hw (by omega) q3 (by omega)
    refine ⟨_, [d3], ?_, acc ++ [.tup [.int f, .int y]], .im x, z, d3, rfl, rfl, w3.mono (by omega), by simp [q4], fun a ha => ?_, ?_⟩
    · rw [lpB_eq (ρ' := [.im (.mref 0), .im (.int (w : Nat)), .im (.bl b), .ow (.lst acc), .im x, z5]) rfl, t]
    · rcases List.mem_append.mp ha with ha | ha
      · exact q5 a ha
      · rw [List.mem_singleton.mp ha, tp_tup]
        have h1 : tp false 0 (.int f) = true := decide_eq_true (by omega)
        have h2 : tp false 0 (.int y) = true := decide_eq_true (by omega)
        simp [h1, h2]
    · rw [wts_app, wts_cons, wts_nil, wt_tup, wts_cons, wts_cons, wts_nil, wt_flat rfl, wt_flat rfl]
      omega
  subst q1 q2
  rw [hlr, Nat.zero_add] at q3 q4 q6
  refine ⟨.tup acc, d2, ?_, q3.mono (by omega), Sd.tup q5 (by omega) (by decide)⟩
  rw [Cl_eq (d := d__law_terms) (ρ := [.im (.mref 0), .im (.int (w : Nat)), .im (.bl b), .un, .un, .un]) rfl]
  have eb : d__law_terms.body = [.own 3 (.lst []), .for (.nm 4) (.rng1 (.bin .add (.c (.int 1)) (.call ("_law_draw", 2, []) [false, false] [(.v 0), (.ife (.bv 2) (.c (.int 5)) (.c (.int 3)))]))) tmB, .ret (.blt .tuple [(.bv 3)])] := rfl
  have c0 : cap 0 = true := rfl
  rw [eb, sq_nx (ρ' := [.im (.mref 0), .im (.int (w : Nat)), .im (.bl b), .ow (.lst []), .un, .un]) (s' := [d]) (by simp only [ex, exs, ev, evs, evO, evI, fin, Out.bind, Out.bindL, OutL.bind, OutL.bindL, Out.fl, OutL.fl, Fl.seq, Out.get, bindT, bindTs, callO_L, Ou.out_ok, Ou.out_exc, List.getElem?_cons_zero, List.getElem?_cons_succ, List.set_cons_zero, List.set_cons_succ, List.length_cons, List.length_nil, Option.map_some, cmpD, eqS_i, eqS_s, eqS_b, binD, bltD, truth, isTys, isTy, flatD, isNon, isLst, itemsOf, Nat.zero_add, Nat.reduceAdd, Nat.reduceLT, Nat.reduceLeDiff, if_true, if_false, reduceIte, decide_true, decide_false, Bool.not_true, Bool.not_false, runR, and_self, suF, suB, unX, unX1, List.map_cons, List.map_nil, sliD, partD, c0])]
  rw [sq_nx ((ex_for e1 rfl).trans L)]
  simp only [ex, exs, ev, evs, evO, evI, fin, Out.bind, Out.bindL, OutL.bind, OutL.bindL, Out.fl, OutL.fl, Fl.seq, Out.get, bindT, bindTs, callO_L, Ou.out_ok, Ou.out_exc, List.getElem?_cons_zero, List.getElem?_cons_succ, List.set_cons_zero, List.set_cons_succ, List.length_cons, List.length_nil, Option.map_some, cmpD, eqS_i, eqS_s, eqS_b, binD, bltD, truth, isTys, isTy, flatD, isNon, isLst, itemsOf, Nat.zero_add, Nat.reduceAdd, Nat.reduceLT, Nat.reduceLeDiff, if_true, if_false, reduceIte, decide_true, decide_false, Bool.not_true, Bool.not_false, runR, and_self, suF, suB, unX, unX1, List.map_cons, List.map_nil, sliD, partD]
theorem comp_ok (hi : 3 ≤ i) {w : Nat} (hw : w ≤ 4) (h : WF n d) (hn : n ≤ 700000) : ∃ (t d' : D), Z.Cl prg i ("_law_comparison", 2, []) [.mref 0, .int (w : Nat)] [d] = .ok t [d'] ∧ WF (n + 14) d' ∧ Sd 3 19 t := by
  obtain ⟨i, rfl⟩ : ∃ j, i = j + 1 := ⟨i - 1, by omega⟩
  obtain ⟨r, d1, e1, w1, r1⟩ := draw_nat (P := prg) (i := i) (k := 3) (by omega) (by decide) h (by omega) (by decide)
  have e1 : Z.Cl prg i ("_law_draw", 2, []) [.mref 0, .int 3] [d] = .ok (.int (r : Int)) [d1] := e1
  obtain ⟨t, d2, e2, w2, s2⟩ := terms_ok (i := i) (b := decide ((r : Int) = 0)) (by omega) hw w1 (by omega)
  obtain ⟨m, d3, w3, hm, e3⟩ : ∃ (m : Int) (d3 : D), WF (n + 1 + 11 + 1) d3 ∧ m.natAbs ≤ 1000000 ∧ ev (fnL prg i) (.ife (.bv 2) (.bin .sub (.call ("_law_draw", 2, []) [false, false] [(.v 0), (.c (.int 1999999))]) (.c (.int 999999))) (.bin .sub (.call ("_law_draw", 2, []) [false, false] [(.v 0), (.c (.int 9))]) (.c (.int 4)))) false [.im (.mref 0), .im (.int (w : Nat)), .im (.bl (decide ((r : Int) = 0))), .im t, .un] [d2] = .ok (.int m) [.im (.mref 0), .im (.int (w : Nat)), .im (.bl (decide ((r : Int) = 0))), .im t, .un] [d3] := by
    cases decide ((r : Int) = 0) with
    | true =>
      obtain ⟨r, d1, e1, w1, r1⟩ := draw_nat (P := prg) (i := i) (k := 1999999) (by omega) (by decide) w2 (by omega) (by decide)
      have e1 : Z.Cl prg i ("_law_draw", 2, []) [.mref 0, .int 1999999] [d2] = .ok (.int (r : Int)) [d1] := e1
      exact ⟨(r : Int) - 999999, d1, w1, by omega, by simp only [ex, exs, ev, evs, evO, evI, fin, Out.bind, Out.bindL, OutL.bind, OutL.bindL, Out.fl, OutL.fl, Fl.seq, Out.get, bindT, bindTs, callO_L, Ou.out_ok, Ou.out_exc, List.getElem?_cons_zero, List.getElem?_cons_succ, List.set_cons_zero, List.set_cons_succ, List.length_cons, List.length_nil, Option.map_some, cmpD, eqS_i, eqS_s, eqS_b, binD, bltD, truth, isTys, isTy, flatD, isNon, isLst, itemsOf, Nat.zero_add, Nat.reduceAdd, Nat.reduceLT, Nat.reduceLeDiff, if_true, if_false, reduceIte, decide_true, decide_false, Bool.not_true, Bool.not_false, runR, and_self, suF, suB, unX, unX1, List.map_cons, List.map_nil, sliD, partD, e1]⟩
    | false =>
      obtain ⟨r, d1, e1, w1, r1⟩ := draw_nat (P := prg) (i := i) (k := 9) (by omega) (by decide) w2 (by omega) (by decide)
      have e1 : Z.Cl prg i ("_law_draw", 2, []) [.mref 0, .int 9] [d2] = .ok (.int (r : Int)) [d1] := e1
      exact ⟨(r : Int) - 4, d1, w1, by omega, by simp only [ex, exs, ev, evs, evO, evI, fin, Out.bind, Out.bindL, OutL.bind, OutL.bindL, Out.fl, OutL.fl, Fl.seq, Out.get, bindT, bindTs, callO_L, Ou.out_ok, Ou.out_exc, List.getElem?_cons_zero, List.getElem?_cons_succ, List.set_cons_zero, List.set_cons_succ, List.length_cons, List.length_nil, Option.map_some, cmpD, eqS_i, eqS_s, eqS_b, binD, bltD, truth, isTys, isTy, flatD, isNon, isLst, itemsOf, Nat.zero_add, Nat.reduceAdd, Nat.reduceLT, Nat.reduceLeDiff, if_true, if_false, reduceIte, decide_true, decide_false, Bool.not_true, Bool.not_false, runR, and_self, suF, suB, unX, unX1, List.map_cons, List.map_nil, sliD, partD, e1]⟩
  obtain ⟨z, d4, hz, e4, w4⟩ := pick_ok (i := i) (by omega) w3 (by omega) (xs := [.str "most", .str "same"]) (by simp) (by decide)
  have hz2 : Sd 2 1 z := by
    rcases List.mem_cons.mp hz with rfl | hz
    · exact Sd.str (by decide +kernel) (by decide)
    · rw [List.mem_singleton.mp hz]; exact Sd.str (by decide +kernel) (by decide)
  have hm2 : Sd 2 1 (.int m) := Sd.int hm (by decide)
  have k2 : cap 2 = true := rfl
  have k3 : cap 3 = true := rfl
  refine ⟨.tup [z, t, .int m], d4, ?_, w4.mono (by omega), Sd.tup (fun x hx => ?_) ?_ (by decide)⟩
  · rw [Cl_eq (d := d__law_comparison) (ρ := [.im (.mref 0), .im (.int (w : Nat)), .un, .un, .un]) rfl]
    have e9 : d__law_comparison.body = b__law_comparison := rfl
    rw [e9]
    unfold b__law_comparison
    rw [sq_nx (ρ' := [.im (.mref 0), .im (.int (w : Nat)), .im (.bl (decide ((r : Int) = 0))), .un, .un]) (s' := [d1]) (by simp only [ex, exs, ev, evs, evO, evI, fin, Out.bind, Out.bindL, OutL.bind, OutL.bindL, Out.fl, OutL.fl, Fl.seq, Out.get, bindT, bindTs, callO_L, Ou.out_ok, Ou.out_exc, List.getElem?_cons_zero, List.getElem?_cons_succ, List.set_cons_zero, List.set_cons_succ, List.length_cons, List.length_nil, Option.map_some, cmpD, eqS_i, eqS_s, eqS_b, binD, bltD, truth, isTys, isTy, flatD, isNon, isLst, itemsOf, Nat.zero_add, Nat.reduceAdd, Nat.reduceLT, Nat.reduceLeDiff, if_true, if_false, reduceIte, decide_true, decide_false, Bool.not_true, Bool.not_false, runR, and_self, suF, suB, unX, unX1, List.map_cons, List.map_nil, sliD, partD, e1])]
    rw [sq_nx (ρ' := [.im (.mref 0), .im (.int (w : Nat)), .im (.bl (decide ((r : Int) = 0))), .im t, .un]) (s' := [d2]) (by simp only [ex, exs, ev, evs, evO, evI, fin, Out.bind, Out.bindL, OutL.bind, OutL.bindL, Out.fl, OutL.fl, Fl.seq, Out.get, bindT, bindTs, callO_L, Ou.out_ok, Ou.out_exc, List.getElem?_cons_zero, List.getElem?_cons_succ, List.set_cons_zero, List.set_cons_succ, List.length_cons, List.length_nil, Option.map_some, cmpD, eqS_i, eqS_s, eqS_b, binD, bltD, truth, isTys, isTy, flatD, isNon, isLst, itemsOf, Nat.zero_add, Nat.reduceAdd, Nat.reduceLT, Nat.reduceLeDiff, if_true, if_false, reduceIte, decide_true, decide_false, Bool.not_true, Bool.not_false, runR, and_self, suF, suB, unX, unX1, List.map_cons, List.map_nil, sliD, partD, e2])]
    rw [sq_nx (ρ' := [.im (.mref 0), .im (.int (w : Nat)), .im (.bl (decide ((r : Int) = 0))), .im t, .im (.int m)]) (s' := [d3]) (ex_asg e3 rfl)]
    simp only [ex, exs, ev, evs, evO, evI, fin, Out.bind, Out.bindL, OutL.bind, OutL.bindL, Out.fl, OutL.fl, Fl.seq, Out.get, bindT, bindTs, callO_L, Ou.out_ok, Ou.out_exc, List.getElem?_cons_zero, List.getElem?_cons_succ, List.set_cons_zero, List.set_cons_succ, List.length_cons, List.length_nil, Option.map_some, cmpD, eqS_i, eqS_s, eqS_b, binD, bltD, truth, isTys, isTy, flatD, isNon, isLst, itemsOf, Nat.zero_add, Nat.reduceAdd, Nat.reduceLT, Nat.reduceLeDiff, if_true, if_false, reduceIte, decide_true, decide_false, Bool.not_true, Bool.not_false, runR, and_self, suF, suB, unX, unX1, List.map_cons, List.map_nil, sliD, partD, e4, k2, k3]
  · simp only [List.mem_cons, List.not_mem_nil, or_false] at hx
    rcases hx with rfl | rfl | rfl
    · exact hz2.tp
    · exact s2.tp
    · exact hm2.tp
  · rw [wts_cons, wts_cons, wts_cons, wts_nil]
    have := hz2.wt
    have := s2.wt
    have := hm2.wt
    omega
end
end K49

namespace K49
open PySem PySem.Spec PyProof.Rows L2 Z Lb
section
variable {w : Nat}
abbrev sE : Ex := .call ("_law_saying", 3, []) [false, false, false] [(.v 0), (.v 1), (.bin .sub (.bv 2) (.c (.int 1)))]
theorem saying_ok (hw : w ≤ 4) : ∀ (j : Nat), j ≤ 3 → ∀ {i : Nat} {n : Int} {d : D}, j + 4 ≤ i → WF n d → n ≤ 600000 - 10000 * (j : Int) → ∃ (t d' : D), Z.Cl prg i ("_law_saying", 3, []) [.mref 0, .int (w : Nat), .int ((j : Int) + 1)] [d] = .ok t [d'] ∧ WF (n + ((15 * 5 ^ j : Nat) : Int)) d' ∧ Sd (2 * j + 3) (19 * 5 ^ j) t := by
  intro j
  induction j with
  | zero =>
    intro _ i n d hi h hn
    obtain ⟨i, rfl⟩ : ∃ j, i = j + 1 := ⟨i - 1, by omega⟩
    obtain ⟨r, d1, e1, w1, r1⟩ := draw_nat (P := prg) (i := i) (k := 6) (by omega) (by decide) h (by omega) (by decide)
    have e1 : Z.Cl prg i ("_law_draw", 2, []) [.mref 0, .int 6] [d] = .ok (.int (r : Int)) [d1] := e1
    obtain ⟨t, d2, e2, w2, s2⟩ := comp_ok (i := i) (by omega) hw w1 (by omega)
    refine ⟨t, d2, ?_, w2.mono (by simp; omega), s2.mono (by omega) (by omega)⟩
    rw [Cl_eq (d := d__law_saying) (ρ := [.im (.mref 0), .im (.int (w : Nat)), .im (.int ((0 : Nat) + 1)), .un, .un, .un, .un]) rfl]
    have c : ((0 : Nat) : Int) + 1 < 2 := by decide
    simp only [d__law_saying, b__law_saying, ex, exs, ev, evs, evO, evI, fin, Out.bind, Out.bindL, OutL.bind, OutL.bindL, Out.fl, OutL.fl, Fl.seq, Out.get, bindT, bindTs, callO_L, Ou.out_ok, Ou.out_exc, List.getElem?_cons_zero, List.getElem?_cons_succ, List.set_cons_zero, List.set_cons_succ, List.length_cons, List.length_nil, Option.map_some, cmpD, eqS_i, eqS_s, eqS_b, binD, bltD, truth, isTys, isTy, flatD, isNon, isLst, itemsOf, Nat.zero_add, Nat.reduceAdd, Nat.reduceLT, Nat.reduceLeDiff, if_true, if_false, reduceIte, decide_true, decide_false, Bool.not_true, Bool.not_false, runR, and_self, suF, suB, unX, unX1, List.map_cons, List.map_nil, sliD, partD, e1, c, e2]
  | succ j ih =>
    intro hj i n d hi h hn
    obtain ⟨i, rfl⟩ : ∃ j, i = j + 1 := ⟨i - 1, by omega⟩
    have ih := fun {n d} => ih (by omega) (i := i) (n := n) (d := d) (by omega)
    have e5 : (5 : Nat) ^ (j + 1) = 5 * 5 ^ j := by rw [Nat.pow_succ]; omega
    have p1 : 1 ≤ 5 ^ j := Nat.one_le_pow _ _ (by decide)
    have p2 : 5 ^ j ≤ 125 := Nat.pow_le_pow_right (show 5 > 0 by decide) (show j ≤ 3 by omega)
    rw [e5]
    generalize 5 ^ j = C at ih p1 p2
    rw [Cl_eq (d := d__law_saying) (ρ := [.im (.mref 0), .im (.int (w : Nat)), .im (.int (((j + 1 : Nat) : Int) + 1)), .un, .un, .un, .un]) rfl]
    obtain ⟨D1, hD1⟩ : ∃ D1 : Int, D1 = ((j + 1 : Nat) : Int) + 1 := ⟨_, rfl⟩
    rw [← hD1]
    have hsub : D1 - 1 = (j : Int) + 1 := by omega
    obtain ⟨r, d1, e1, w1, r1⟩ := draw_nat (P := prg) (i := i) (k := 6) (by omega) (by decide) h (by omega) (by decide)
    have e1 : Z.Cl prg i ("_law_draw", 2, []) [.mref 0, .int 6] [d] = .ok (.int (r : Int)) [d1] := e1
    have cd : ¬ D1 < 2 := by omega
    have k2 : cap 2 = true := rfl
    by_cases c3 : (r : Int) < 3
    · obtain ⟨t, d2, e2, w2, s2⟩ := comp_ok (i := i) (by omega) hw w1 (by omega)
      refine ⟨t, d2, ?_, w2.mono (by push_cast; omega), s2.mono (by omega) (by omega)⟩
      simp only [d__law_saying, b__law_saying, ex, exs, ev, evs, evO, evI, fin, Out.bind, Out.bindL, OutL.bind, OutL.bindL, Out.fl, OutL.fl, Fl.seq, Out.get, bindT, bindTs, callO_L, Ou.out_ok, Ou.out_exc, List.getElem?_cons_zero, List.getElem?_cons_succ, List.set_cons_zero, List.set_cons_succ, List.length_cons, List.length_nil, Option.map_some, cmpD, eqS_i, eqS_s, eqS_b, binD, bltD, truth, isTys, isTy, flatD, isNon, isLst, itemsOf, Nat.zero_add, Nat.reduceAdd, Nat.reduceLT, Nat.reduceLeDiff, if_true, if_false, reduceIte, decide_true, decide_false, Bool.not_true, Bool.not_false, runR, and_self, suF, suB, unX, unX1, List.map_cons, List.map_nil, sliD, partD, e1, cd, c3, e2]
    · by_cases c4 : (r : Int) = 3
      · obtain ⟨t, d2, e2, w2, s2⟩ := ih w1 (by omega)
        rw [← hsub] at e2
        refine ⟨.tup [.str "not", t], d2, ?_, w2.mono (by push_cast; omega), ?_⟩
        · have c3' : ¬ (3 : Int) < 3 := by decide
          simp only [d__law_saying, b__law_saying, ex, exs, ev, evs, evO, evI, fin, Out.bind, Out.bindL, OutL.bind, OutL.bindL, Out.fl, OutL.fl, Fl.seq, Out.get, bindT, bindTs, callO_L, Ou.out_ok, Ou.out_exc, List.getElem?_cons_zero, List.getElem?_cons_succ, List.set_cons_zero, List.set_cons_succ, List.length_cons, List.length_nil, Option.map_some, cmpD, eqS_i, eqS_s, eqS_b, binD, bltD, truth, isTys, isTy, flatD, isNon, isLst, itemsOf, Nat.zero_add, Nat.reduceAdd, Nat.reduceLT, Nat.reduceLeDiff, if_true, if_false, reduceIte, decide_true, decide_false, Bool.not_true, Bool.not_false, runR, and_self, suF, suB, unX, unX1, List.map_cons, List.map_nil, sliD, partD, e1, cd, c4, c3', e2, k2]
        · refine (Sd.tup (k := 2 * j + 3) (W := 19 * C + 2) (fun x hx => ?_) ?_ (by omega)).mono (by omega) (by omega)
          · simp only [List.mem_cons, List.not_mem_nil, or_false] at hx
            rcases hx with rfl | rfl
            · exact (Sd.str (k := 2 * j + 3) (W := 1) (by decide +kernel) (by decide)).tp
            · exact s2.tp
          · rw [wts_cons, wts_cons, wts_nil, wt_flat rfl]
            have := s2.wt
            omega
      · obtain ⟨m0, d2, e2, w2, m1⟩ := draw_nat (P := prg) (i := i) (k := 4) (by omega) (by decide) w1 (by omega) (by decide)
        have e2 : Z.Cl prg i ("_law_draw", 2, []) [.mref 0, .int 4] [d1] = .ok (.int (m0 : Int)) [d2] := e2
        obtain ⟨m, hm⟩ : ∃ m : Nat, m = 1 + m0 := ⟨_, rfl⟩
        have hmi : (1 : Int) + (m0 : Int) = (m : Int) := by omega
        let E : En := [.im (.mref 0), .im (.int (w : Nat)), .im (.int D1), .im (.int (r : Int)), .im (.int (m : Int)), .un, .un]
        have hlr : (rangeD 0 m).length = m := by simp [rangeD]
        obtain ⟨ds, s', g1, d3, q2, q3, q4, q5, q6⟩ := goL_inv (f := lcF (fnL prg i) (blkE (Z.frzAt E [0, 2, 1]) [5]) (.nm 5) none sE) (fun k acc s => ∃ (d' : D), s = [d'] ∧ WF (n + 1 + 1 + ((15 * C * k : Nat) : Int)) d' ∧ acc.length = k ∧ (∀ x ∈ acc, K49.tp false (2 * j + 3) x = true) ∧ wts acc ≤ 19 * C * k) (rangeD 0 m) 0 [] (s := [d2]) ⟨d2, rfl, by simpa using w2, rfl, by simp, by simp [wts_nil]⟩ fun k x acc s hx ⟨d', a2, a3, a4, a5, a6⟩ => by
          have hk : k < m := by have := (List.getElem?_eq_some_iff.mp hx).1; omega
          subst a2
          rw [Nat.zero_add] at a3 a4 a6
          have hk3 : 15 * C * k ≤ 15 * C * 4 := Nat.mul_le_mul_left _ (by omega)
          obtain ⟨t, d4, e4, w4, s4⟩ := ih a3 (by generalize 15 * C * k = K at hk3; omega)
          rw [← hsub] at e4
          refine ⟨[t], [], [d4], ?_, d4, rfl, w4.mono ?_, by simp [a4], fun y hy => ?_, ?_⟩
          · have eb : blkE (Z.frzAt E [0, 2, 1]) [5] = E := rfl
            rw [eb]
            simp only [lcF, E, ex, exs, ev, evs, evO, evI, fin, Out.bind, Out.bindL, OutL.bind, OutL.bindL, Out.fl, OutL.fl, Fl.seq, Out.get, bindT, bindTs, callO_L, Ou.out_ok, Ou.out_exc, List.getElem?_cons_zero, List.getElem?_cons_succ, List.set_cons_zero, List.set_cons_succ, List.length_cons, List.length_nil, Option.map_some, cmpD, eqS_i, eqS_s, eqS_b, binD, bltD, ixD, truth, isTys, isTy, flatD, isNon, isLst, itemsOf, Nat.zero_add, Nat.reduceAdd, Nat.reduceLT, Nat.reduceLeDiff, if_true, if_false, reduceIte, decide_true, decide_false, Bool.not_true, Bool.not_false, runR, and_self, suF, suB, unX, unX1, List.map_cons, List.map_nil, sliD, partD, e4]
          · rw [Nat.zero_add, Nat.mul_succ]
            push_cast
            omega
          · rcases List.mem_append.mp hy with hy | hy
            · exact a5 y hy
            · rw [List.mem_singleton.mp hy]; exact s4.tp
          · rw [wts_app, wts_cons, wts_nil, Nat.zero_add, Nat.mul_succ]
            have := s4.wt
            omega
        subst q2
        rw [hlr, Nat.zero_add] at q3 q4 q6
        rw [List.nil_append] at q4 q5 q6
        have m4 : m ≤ 4 := by omega
        have hk3 : 15 * C * m ≤ 15 * C * 4 := Nat.mul_le_mul_left _ m4
        have hk4 : 19 * C * m ≤ 19 * C * 4 := Nat.mul_le_mul_left _ m4
        generalize 15 * C * m = K at q3 hk3
        have el : ev (fnL prg i) (.lc [0, 2, 1] [5] (.nm 5) (.rng1 (.bv 4)) none sE) false E [d2] = .ok (.lst ds) E [d3] := by
          refine ev_lc (ρ9 := []) (x := .lst (rangeD 0 m)) (xs := rangeD 0 m) (ρ' := E) (s' := [d2]) ?_ rfl g1 (by simp [cap]; omega)
          have c1 : ((m : Nat) : Int) ≤ 100000 ∧ -100000 ≤ ((m : Nat) : Int) := by omega
          simp only [E, ex, exs, ev, evs, evO, evI, fin, Out.bind, Out.bindL, OutL.bind, OutL.bindL, Out.fl, OutL.fl, Fl.seq, Out.get, bindT, bindTs, callO_L, Ou.out_ok, Ou.out_exc, List.getElem?_cons_zero, List.getElem?_cons_succ, List.set_cons_zero, List.set_cons_succ, List.length_cons, List.length_nil, Option.map_some, cmpD, eqS_i, eqS_s, eqS_b, binD, bltD, ixD, truth, isTys, isTy, flatD, isNon, isLst, itemsOf, Nat.zero_add, Nat.reduceAdd, Nat.reduceLT, Nat.reduceLeDiff, if_true, if_false, reduceIte, decide_true, decide_false, Bool.not_true, Bool.not_false, runR, and_self, suF, suB, unX, unX1, List.map_cons, List.map_nil, sliD, partD, c1, Int.toNat_natCast]
        have eT : ev (fnL prg i) (.blt .tuple [(.lc [0, 2, 1] [5] (.nm 5) (.rng1 (.bv 4)) none sE)]) false E [d2] = .ok (.tup ds) E [d3] := by
          simp only [ev.eq_def (fnL prg i) (.blt _ _), evs, el, Z.fin, Out.bind, Out.bindL, OutL.bind, OutL.bindL, Out.get, bltD]
        have c3' : ¬ (r : Int) < 3 := c3
        obtain ⟨z, hz, ez⟩ : ∃ z : Str, wds.contains z = true ∧ ev (fnL prg i) (.ife (.cmp .eq (.bv 3) (.c (.int 4))) (.c (.str "and")) (.c (.str "or"))) false [.im (.mref 0), .im (.int (w : Nat)), .im (.int D1), .im (.int (r : Int)), .im (.int (m : Int)), .un, .im (.tup ds)] [d3] = .ok (.str z) [.im (.mref 0), .im (.int (w : Nat)), .im (.int D1), .im (.int (r : Int)), .im (.int (m : Int)), .un, .im (.tup ds)] [d3] := by
          by_cases c : (r : Int) = 4
          · exact ⟨"and", by decide +kernel, by simp only [ex, exs, ev, evs, evO, evI, fin, Out.bind, Out.bindL, OutL.bind, OutL.bindL, Out.fl, OutL.fl, Fl.seq, Out.get, bindT, bindTs, callO_L, Ou.out_ok, Ou.out_exc, List.getElem?_cons_zero, List.getElem?_cons_succ, List.set_cons_zero, List.set_cons_succ, List.length_cons, List.length_nil, Option.map_some, cmpD, eqS_i, eqS_s, eqS_b, binD, bltD, truth, isTys, isTy, flatD, isNon, isLst, itemsOf, Nat.zero_add, Nat.reduceAdd, Nat.reduceLT, Nat.reduceLeDiff, if_true, if_false, reduceIte, decide_true, decide_false, Bool.not_true, Bool.not_false, runR, and_self, suF, suB, unX, unX1, List.map_cons, List.map_nil, sliD, partD, c]⟩
          · exact ⟨"or", by decide +kernel, by simp only [ex, exs, ev, evs, evO, evI, fin, Out.bind, Out.bindL, OutL.bind, OutL.bindL, Out.fl, OutL.fl, Fl.seq, Out.get, bindT, bindTs, callO_L, Ou.out_ok, Ou.out_exc, List.getElem?_cons_zero, List.getElem?_cons_succ, List.set_cons_zero, List.set_cons_succ, List.length_cons, List.length_nil, Option.map_some, cmpD, eqS_i, eqS_s, eqS_b, binD, bltD, truth, isTys, isTy, flatD, isNon, isLst, itemsOf, Nat.zero_add, Nat.reduceAdd, Nat.reduceLT, Nat.reduceLeDiff, if_true, if_false, reduceIte, decide_true, decide_false, Bool.not_true, Bool.not_false, runR, and_self, suF, suB, unX, unX1, List.map_cons, List.map_nil, sliD, partD, c]⟩
        refine ⟨.tup [.str z, .tup ds], d3, ?_, q3.mono (by omega), ?_⟩
        · have e9 : d__law_saying.body = b__law_saying := rfl
          rw [e9]
          unfold b__law_saying
          rw [sq_nx (ρ' := [.im (.mref 0), .im (.int (w : Nat)), .im (.int D1), .im (.int (r : Int)), .un, .un, .un]) (s' := [d1]) (by simp only [ex, exs, ev, evs, evO, evI, fin, Out.bind, Out.bindL, OutL.bind, OutL.bindL, Out.fl, OutL.fl, Fl.seq, Out.get, bindT, bindTs, callO_L, Ou.out_ok, Ou.out_exc, List.getElem?_cons_zero, List.getElem?_cons_succ, List.set_cons_zero, List.set_cons_succ, List.length_cons, List.length_nil, Option.map_some, cmpD, eqS_i, eqS_s, eqS_b, binD, bltD, truth, isTys, isTy, flatD, isNon, isLst, itemsOf, Nat.zero_add, Nat.reduceAdd, Nat.reduceLT, Nat.reduceLeDiff, if_true, if_false, reduceIte, decide_true, decide_false, Bool.not_true, Bool.not_false, runR, and_self, suF, suB, unX, unX1, List.map_cons, List.map_nil, sliD, partD, e1])]
          rw [sq_nx (ρ' := [.im (.mref 0), .im (.int (w : Nat)), .im (.int D1), .im (.int (r : Int)), .un, .un, .un]) (s' := [d1]) (by simp only [ex, exs, ev, evs, evO, evI, fin, Out.bind, Out.bindL, OutL.bind, OutL.bindL, Out.fl, OutL.fl, Fl.seq, Out.get, bindT, bindTs, callO_L, Ou.out_ok, Ou.out_exc, List.getElem?_cons_zero, List.getElem?_cons_succ, List.set_cons_zero, List.set_cons_succ, List.length_cons, List.length_nil, Option.map_some, cmpD, eqS_i, eqS_s, eqS_b, binD, bltD, truth, isTys, isTy, flatD, isNon, isLst, itemsOf, Nat.zero_add, Nat.reduceAdd, Nat.reduceLT, Nat.reduceLeDiff, if_true, if_false, reduceIte, decide_true, decide_false, Bool.not_true, Bool.not_false, runR, and_self, suF, suB, unX, unX1, List.map_cons, List.map_nil, sliD, partD, cd, c3])]
          rw [sq_nx (ρ' := [.im (.mref 0), .im (.int (w : Nat)), .im (.int D1), .im (.int (r : Int)), .un, .un, .un]) (s' := [d1]) (by simp only [ex, exs, ev, evs, evO, evI, fin, Out.bind, Out.bindL, OutL.bind, OutL.bindL, Out.fl, OutL.fl, Fl.seq, Out.get, bindT, bindTs, callO_L, Ou.out_ok, Ou.out_exc, List.getElem?_cons_zero, List.getElem?_cons_succ, List.set_cons_zero, List.set_cons_succ, List.length_cons, List.length_nil, Option.map_some, cmpD, eqS_i, eqS_s, eqS_b, binD, bltD, truth, isTys, isTy, flatD, isNon, isLst, itemsOf, Nat.zero_add, Nat.reduceAdd, Nat.reduceLT, Nat.reduceLeDiff, if_true, if_false, reduceIte, decide_true, decide_false, Bool.not_true, Bool.not_false, runR, and_self, suF, suB, unX, unX1, List.map_cons, List.map_nil, sliD, partD, c4])]
          rw [sq_nx (ρ' := E) (s' := [d2]) (by simp only [ex, exs, ev, evs, evO, evI, fin, Out.bind, Out.bindL, OutL.bind, OutL.bindL, Out.fl, OutL.fl, Fl.seq, Out.get, bindT, bindTs, callO_L, Ou.out_ok, Ou.out_exc, List.getElem?_cons_zero, List.getElem?_cons_succ, List.set_cons_zero, List.set_cons_succ, List.length_cons, List.length_nil, Option.map_some, cmpD, eqS_i, eqS_s, eqS_b, binD, bltD, truth, isTys, isTy, flatD, isNon, isLst, itemsOf, Nat.zero_add, Nat.reduceAdd, Nat.reduceLT, Nat.reduceLeDiff, if_true, if_false, reduceIte, decide_true, decide_false, Bool.not_true, Bool.not_false, runR, and_self, suF, suB, unX, unX1, List.map_cons, List.map_nil, sliD, partD, e2, hmi, E])]
          rw [sq_nx (ρ' := [.im (.mref 0), .im (.int (w : Nat)), .im (.int D1), .im (.int (r : Int)), .im (.int (m : Int)), .un, .im (.tup ds)]) (s' := [d3]) (ex_asg eT rfl)]
          simp only [ex.eq_def, exs, ev.eq_def (fnL prg i) (.tup _), ev.eq_def (fnL prg i) (.v _), evs, ez, Z.fin, Out.bind, Out.bindL, OutL.bind, OutL.bindL, Out.fl, Fl.seq, List.getElem?_cons_zero, List.getElem?_cons_succ, List.length_cons, List.length_nil, k2, if_true, runR, Nat.zero_add, Nat.reduceAdd]
        · refine (Sd.tup (k := 2 * j + 4) (W := 19 * C * 4 + 3) (fun x hx => ?_) ?_ (by omega)).mono (by omega) (by omega)
          · simp only [List.mem_cons, List.not_mem_nil, or_false] at hx
            rcases hx with rfl | rfl
            · exact (Sd.str (k := 2 * j + 4) (W := 1) hz (by decide)).tp
            · exact (Sd.tup (k := 2 * j + 3) (W := 19 * C * 4 + 1) q5 (by omega) (by omega)).tp
          · rw [wts_cons, wts_cons, wts_nil, wt_flat rfl, wt_tup]
            omega
end
end K49

namespace K49
open PySem PySem.Spec PyProof.Rows L2 Z Lb
def odds (w : Nat) : List D := [.non, .bl true, .str "", .str "most", .int 0, .int (-2), .int (w : Nat), .int 1000, .int (-1000), .int 1000000, .tup [], .tup [.int 1], .tup [.int 1, .int 0], .tup [.int 1, .int 0, .int 0], .str "and", .bl false]
theorem odds_ok {w : Nat} (hw : w ≤ 4) {x : D} (h : x ∈ odds w) : Sd 1 4 x := by
  have it : ∀ n : Int, n.natAbs ≤ 1000000 → K49.tp false 0 (.int n) = true := fun n h => decide_eq_true h
  unfold odds at h
  simp only [List.mem_cons, List.not_mem_nil, or_false] at h
  rcases h with rfl | rfl | rfl | rfl | rfl | rfl | rfl | rfl | rfl | rfl | rfl | rfl | rfl | rfl | rfl | rfl
  · exact ⟨rfl, by rw [wt_flat rfl]; decide⟩
  · exact ⟨rfl, by rw [wt_flat rfl]; decide⟩
  · exact Sd.str (by decide +kernel) (by decide)
  · exact Sd.str (by decide +kernel) (by decide)
  · exact Sd.int (by decide) (by decide)
  · exact Sd.int (by decide) (by decide)
  · exact Sd.int (by omega) (by decide)
  · exact Sd.int (by decide) (by decide)
  · exact Sd.int (by decide) (by decide)
  · exact Sd.int (by decide) (by decide)
  · exact Sd.tup (fun x hx => by cases hx) (by rw [wts_nil]; decide) (by decide)
  · exact Sd.tup (fun x hx => by rw [List.mem_singleton.mp hx]; exact it _ (by decide)) (by rw [wts_cons, wts_nil, wt_flat rfl]; decide) (by decide)
  · refine Sd.tup (fun x hx => ?_) (by rw [wts_cons, wts_cons, wts_nil, wt_flat rfl, wt_flat rfl]; decide) (by decide)
    simp only [List.mem_cons, List.not_mem_nil, or_false] at hx
    rcases hx with rfl | rfl <;> exact it _ (by decide)
  · refine Sd.tup (fun x hx => ?_) (by rw [wts_cons, wts_cons, wts_cons, wts_nil, wt_flat rfl, wt_flat rfl]; decide) (by decide)
    simp only [List.mem_cons, List.not_mem_nil, or_false] at hx
    rcases hx with rfl | rfl | rfl <;> exact it _ (by decide)
  · exact Sd.str (by decide +kernel) (by decide)
  · exact ⟨rfl, by rw [wt_flat rfl]; decide⟩
theorem cut_to {xs : List D} {p : Nat} (h : p ≤ xs.length) : Z.cutD xs none (some (p : Int)) = xs.take p := by
  unfold Z.cutD
  rw [HT.sIx_none, HT.sIx_nat, Nat.min_eq_left h]
  simp
theorem cut_from {xs : List D} {p : Nat} (h : p ≤ xs.length) : Z.cutD xs (some (p : Int)) none = xs.drop p := by
  unfold Z.cutD
  rw [HT.sIx_none, HT.sIx_nat, Nat.min_eq_left h]
  exact List.take_of_length_le (by simp)
theorem take_at {xs : List D} {p : Nat} (h : p < xs.length) : wts (xs.take p) + wt xs[p] + wts (xs.drop (p + 1)) = wts xs := by
  have e : xs = xs.take p ++ xs[p] :: xs.drop (p + 1) := by
    rw [← List.drop_eq_getElem_cons h, List.take_append_drop]
  have := congrArg wts e
  rw [wts_app, wts_cons] at this
  omega
theorem eq_nil_no {k : Nat} {x : D} {xs : List D} (h : tp false k (.tup (x :: xs)) = true) (hk : k ≤ 60) : eqS (.tup (x :: xs)) (.tup []) = some false := by
  obtain ⟨y, e1, e2, e3⟩ := okE_shaped (tp_okE h) (by omega)
  rw [eqS_D e1 (show py (.tup []) = some (.tuple []) from rfl) e2 (by decide +kernel)]
  have e4 := e1
  unfold py at e4
  obtain ⟨ys, e5, rfl⟩ := Option.map_eq_some_iff.mp e4
  unfold pys at e5
  split at e5
  · cases e5
    simp [PyData.eqv, PyData.eqvAll]
  · cases e5
section
variable {w : Nat}
theorem odd_ok (hw : w ≤ 4) {i : Nat} {n : Int} {d : D} (hi : 3 ≤ i) (h : WF n d) (hn : n ≤ 800000) : ∃ (t d' : D), Z.Cl prg i ("_law_odd", 2, []) [.mref 0, .int (w : Nat)] [d] = .ok t [d'] ∧ WF (n + 1) d' ∧ Sd 1 4 t := by
  obtain ⟨i, rfl⟩ : ∃ j, i = j + 1 := ⟨i - 1, by omega⟩
  obtain ⟨x, d1, hx, e1, w1⟩ := pick_ok (i := i) (by omega) h (by omega) (xs := odds w) (by simp [odds]) (by simp [odds])
  unfold odds at e1
  refine ⟨x, d1, ?_, w1, odds_ok hw hx⟩
  rw [Cl_eq (d := d__law_odd) (ρ := [.im (.mref 0), .im (.int (w : Nat))]) rfl]
  have c16 : cap 16 = true := rfl
  have c0 : cap 0 = true := rfl
  have c1 : cap 1 = true := rfl
  have c2 : cap 2 = true := rfl
  have c3 : cap 3 = true := rfl
  simp only [d__law_odd, b__law_odd, ex, exs, ev, evs, evO, evI, fin, Out.bind, Out.bindL, OutL.bind, OutL.bindL, Out.fl, OutL.fl, Fl.seq, Out.get, bindT, bindTs, callO_L, Ou.out_ok, Ou.out_exc, List.getElem?_cons_zero, List.getElem?_cons_succ, List.set_cons_zero, List.set_cons_succ, List.length_cons, List.length_nil, Option.map_some, cmpD, eqS_i, eqS_s, eqS_b, binD, bltD, truth, isTys, isTy, flatD, isNon, isLst, itemsOf, Nat.zero_add, Nat.reduceAdd, Nat.reduceLT, Nat.reduceLeDiff, if_true, if_false, reduceIte, decide_true, decide_false, Bool.not_true, Bool.not_false, runR, and_self, suF, suB, unX, unX1, List.map_cons, List.map_nil, sliD, partD, c16, c0, c1, c2, c3, e1]
theorem changed_ok (hw : w ≤ 4) : ∀ (m : Nat) {i : Nat} {n : Int} {d : D} {k : Nat} {x : D}, m + 5 ≤ i → WF n d → n ≤ 700000 - 10 * (m : Int) → tp false k x = true → k ≤ 30 → wt x ≤ 20000 →
    ∃ (t d' : D), Z.Cl prg i ("_law_changed", 4, []) [.mref 0, x, .int (w : Nat), .int (m : Nat)] [d] = .ok t [d'] ∧ WF (n + 3 * (m : Int) + 2) d' ∧ Sd (k + 1) (2 * wt x + 4) t := by
  intro m
  induction m with
  | zero =>
    intro i n d k x hi h hn ht hk hx
    obtain ⟨i, rfl⟩ : ∃ j, i = j + 1 := ⟨i - 1, by omega⟩
    obtain ⟨t, d1, e1, w1, s1⟩ := odd_ok hw (i := i) (by omega) h (by omega)
    refine ⟨t, d1, ?_, w1.mono (by omega), s1.mono (by omega) (by omega)⟩
    rw [Cl_eq (d := d__law_changed) (ρ := [.im (.mref 0), .im x, .im (.int (w : Nat)), .im (.int ((0 : Nat) : Int)), .un, .un]) rfl]
    have z0 : ((0 : Nat) : Int) = 0 := rfl
    have c0 : cap 0 = true := rfl
    rcases tp_kinds ht with ⟨j, xs, e, rfl, hm, hl⟩ | ⟨_, _, e3⟩
    · cases xs with
      | nil =>
        have q : eqS (.tup []) (.tup []) = some true := by decide +kernel
        simp only [d__law_changed, b__law_changed, ex, exs, ev, evs, evO, evI, fin, Out.bind, Out.bindL, OutL.bind, OutL.bindL, Out.fl, OutL.fl, Fl.seq, Out.get, bindT, bindTs, callO_L, Ou.out_ok, Ou.out_exc, List.getElem?_cons_zero, List.getElem?_cons_succ, List.set_cons_zero, List.set_cons_succ, List.length_cons, List.length_nil, Option.map_some, cmpD, eqS_i, eqS_s, eqS_b, binD, bltD, truth, isTys, isTy, flatD, isNon, isLst, itemsOf, Nat.zero_add, Nat.reduceAdd, Nat.reduceLT, Nat.reduceLeDiff, if_true, if_false, reduceIte, decide_true, decide_false, Bool.not_true, Bool.not_false, runR, and_self, suF, suB, unX, unX1, List.map_cons, List.map_nil, sliD, partD, q, e1, c0]
      | cons y ys =>
        have q := eq_nil_no ht (by omega)
        simp only [d__law_changed, b__law_changed, ex, exs, ev, evs, evO, evI, fin, Out.bind, Out.bindL, OutL.bind, OutL.bindL, Out.fl, OutL.fl, Fl.seq, Out.get, bindT, bindTs, callO_L, Ou.out_ok, Ou.out_exc, List.getElem?_cons_zero, List.getElem?_cons_succ, List.set_cons_zero, List.set_cons_succ, List.length_cons, List.length_nil, Option.map_some, cmpD, eqS_i, eqS_s, eqS_b, binD, bltD, truth, isTys, isTy, flatD, isNon, isLst, itemsOf, Nat.zero_add, Nat.reduceAdd, Nat.reduceLT, Nat.reduceLeDiff, if_true, if_false, reduceIte, decide_true, decide_false, Bool.not_true, Bool.not_false, runR, and_self, suF, suB, unX, unX1, List.map_cons, List.map_nil, sliD, partD, q, z0, e1, c0]
    · rcases e3 with rfl | ⟨b, rfl⟩ | ⟨n, rfl⟩ | ⟨z, rfl⟩ <;> simp only [d__law_changed, b__law_changed, ex, exs, ev, evs, evO, evI, fin, Out.bind, Out.bindL, OutL.bind, OutL.bindL, Out.fl, OutL.fl, Fl.seq, Out.get, bindT, bindTs, callO_L, Ou.out_ok, Ou.out_exc, List.getElem?_cons_zero, List.getElem?_cons_succ, List.set_cons_zero, List.set_cons_succ, List.length_cons, List.length_nil, Option.map_some, cmpD, eqS_i, eqS_s, eqS_b, binD, bltD, truth, isTys, isTy, flatD, isNon, isLst, itemsOf, Nat.zero_add, Nat.reduceAdd, Nat.reduceLT, Nat.reduceLeDiff, if_true, if_false, reduceIte, decide_true, decide_false, Bool.not_true, Bool.not_false, runR, and_self, suF, suB, unX, unX1, List.map_cons, List.map_nil, sliD, partD, e1]
  | succ m ih =>
    intro i n d k x hi h hn ht hk hx
    obtain ⟨i, rfl⟩ : ∃ j, i = j + 1 := ⟨i - 1, by omega⟩
    rw [Cl_eq (d := d__law_changed) (ρ := [.im (.mref 0), .im x, .im (.int (w : Nat)), .im (.int ((m + 1 : Nat) : Int)), .un, .un]) rfl]
    have zm : ¬ ((m + 1 : Nat) : Int) = 0 := by omega
    have hsub : ((m + 1 : Nat) : Int) - 1 = (m : Int) := by omega
    have c0 : cap 0 = true := rfl
    have c1 : cap 1 = true := rfl
    have odd := fun {n d} (h : WF n d) (hn : n ≤ 800000) => odd_ok hw (i := i) (by omega) h hn
    rcases tp_kinds ht with ⟨j, xs, e, rfl, hm, hl⟩ | ⟨_, _, e3⟩
    · cases xs with
      | nil =>
        obtain ⟨t, d1, e1, w1, s1⟩ := odd h (by omega)
        refine ⟨t, d1, ?_, w1.mono (by omega), s1.mono (by omega) (by omega)⟩
        have q : eqS (.tup []) (.tup []) = some true := by decide +kernel
        simp only [d__law_changed, b__law_changed, ex, exs, ev, evs, evO, evI, fin, Out.bind, Out.bindL, OutL.bind, OutL.bindL, Out.fl, OutL.fl, Fl.seq, Out.get, bindT, bindTs, callO_L, Ou.out_ok, Ou.out_exc, List.getElem?_cons_zero, List.getElem?_cons_succ, List.set_cons_zero, List.set_cons_succ, List.length_cons, List.length_nil, Option.map_some, cmpD, eqS_i, eqS_s, eqS_b, binD, bltD, truth, isTys, isTy, flatD, isNon, isLst, itemsOf, Nat.zero_add, Nat.reduceAdd, Nat.reduceLT, Nat.reduceLeDiff, if_true, if_false, reduceIte, decide_true, decide_false, Bool.not_true, Bool.not_false, runR, and_self, suF, suB, unX, unX1, List.map_cons, List.map_nil, sliD, partD, q, e1, c0]
      | cons y ys =>
        have q := eq_nil_no ht (by omega)
        have hne : y :: ys ≠ [] := by simp
        generalize hxs : y :: ys = xs at q hm hl ht hx hne
        have hx2 : wts xs + 1 ≤ 20000 := by rw [wt_tup] at hx; omega
        have hln := len_wts xs
        have hl1 : 1 ≤ xs.length := by cases xs; exact absurd rfl hne; simp
        obtain ⟨r7, d1, e7, w1, _⟩ := draw_nat (P := prg) (i := i) (k := 7) (by omega) (by decide) h (by omega) (by decide)
        have e7 : Z.Cl prg i ("_law_draw", 2, []) [.mref 0, .int 7] [d] = .ok (.int (r7 : Int)) [d1] := e7
        by_cases c7 : (r7 : Int) = 0
        · obtain ⟨t, d2, e1, w2, s1⟩ := odd w1 (by omega)
          refine ⟨t, d2, ?_, w2.mono (by omega), s1.mono (by omega) (by omega)⟩
          simp only [d__law_changed, b__law_changed, ex, exs, ev, evs, evO, evI, fin, Out.bind, Out.bindL, OutL.bind, OutL.bindL, Out.fl, OutL.fl, Fl.seq, Out.get, bindT, bindTs, callO_L, Ou.out_ok, Ou.out_exc, List.getElem?_cons_zero, List.getElem?_cons_succ, List.set_cons_zero, List.set_cons_succ, List.length_cons, List.length_nil, Option.map_some, cmpD, eqS_i, eqS_s, eqS_b, binD, bltD, truth, isTys, isTy, flatD, isNon, isLst, itemsOf, Nat.zero_add, Nat.reduceAdd, Nat.reduceLT, Nat.reduceLeDiff, if_true, if_false, reduceIte, decide_true, decide_false, Bool.not_true, Bool.not_false, runR, and_self, suF, suB, unX, unX1, List.map_cons, List.map_nil, sliD, partD, q, zm, e7, c7, e1, c0]
        · obtain ⟨r, d2, e12, w2, _⟩ := draw_nat (P := prg) (i := i) (k := 12) (by omega) (by decide) w1 (by omega) (by decide)
          have e12 : Z.Cl prg i ("_law_draw", 2, []) [.mref 0, .int 12] [d1] = .ok (.int (r : Int)) [d2] := e12
          by_cases c3 : (r : Int) = 0
          · obtain ⟨z, d3, hz, e3, w3⟩ := pick_ok (i := i) (by omega) w2 (by omega) (xs := xs) hne (by omega)
            have cc : cap (xs.length + 1) = true := decide_eq_true (by omega)
            refine ⟨.tup (xs ++ [z]), d3, ?_, w3.mono (by omega), ?_⟩
            · simp only [d__law_changed, b__law_changed, ex, exs, ev, evs, evO, evI, fin, Out.bind, Out.bindL, OutL.bind, OutL.bindL, Out.fl, OutL.fl, Fl.seq, Out.get, bindT, bindTs, callO_L, Ou.out_ok, Ou.out_exc, List.getElem?_cons_zero, List.getElem?_cons_succ, List.set_cons_zero, List.set_cons_succ, List.length_cons, List.length_nil, Option.map_some, cmpD, eqS_i, eqS_s, eqS_b, binD, bltD, truth, isTys, isTy, flatD, isNon, isLst, itemsOf, Nat.zero_add, Nat.reduceAdd, Nat.reduceLT, Nat.reduceLeDiff, if_true, if_false, reduceIte, decide_true, decide_false, Bool.not_true, Bool.not_false, runR, and_self, suF, suB, unX, unX1, List.map_cons, List.map_nil, sliD, partD, q, zm, e7, c7, e12, c3, e3, c0, c1, cc]
            · subst e
              refine (Sd.tup (k := j) (W := 2 * wts xs + 2) (fun a ha => ?_) ?_ (by omega)).mono (by omega) (by rw [wt_tup]; omega)
              · rcases List.mem_append.mp ha with ha | ha
                · exact hm a ha
                · rw [List.mem_singleton.mp ha]; exact hm z hz
              · rw [wts_app, wts_cons, wts_nil]
                have := wt_mem hz
                omega
          · by_cases c4 : (r : Int) = 1
            · refine ⟨.tup (xs.drop 1), d2, ?_, w2.mono (by omega), ?_⟩
              · have ct := cut_from (xs := xs) (p := 1) (by omega)
                have ct : Z.cutD xs (some (1 : Int)) none = xs.drop 1 := ct
                have c31 : ¬ (1 : Int) = 0 := by decide
                simp only [d__law_changed, b__law_changed, ex, exs, ev, evs, evO, evI, fin, Out.bind, Out.bindL, OutL.bind, OutL.bindL, Out.fl, OutL.fl, Fl.seq, Out.get, bindT, bindTs, callO_L, Ou.out_ok, Ou.out_exc, List.getElem?_cons_zero, List.getElem?_cons_succ, List.set_cons_zero, List.set_cons_succ, List.length_cons, List.length_nil, Option.map_some, cmpD, eqS_i, eqS_s, eqS_b, binD, bltD, truth, isTys, isTy, flatD, isNon, isLst, itemsOf, Nat.zero_add, Nat.reduceAdd, Nat.reduceLT, Nat.reduceLeDiff, if_true, if_false, reduceIte, decide_true, decide_false, Bool.not_true, Bool.not_false, runR, and_self, suF, suB, unX, unX1, List.map_cons, List.map_nil, sliD, partD, q, zm, e7, c7, e12, c31, c4, c0, ct]
              · subst e
                refine (Sd.tup (k := j) (W := wts xs + 1) (fun a ha => hm a (List.mem_of_mem_drop ha)) ?_ (by omega)).mono (by omega) (by rw [wt_tup]; omega)
                have := congrArg wts (List.take_append_drop 1 xs)
                rw [wts_app] at this
                omega
            · by_cases c5 : (r : Int) = 2
              · refine ⟨.tup (xs ++ xs), d2, ?_, w2.mono (by omega), ?_⟩
                · have cc : cap (xs.length + xs.length) = true := decide_eq_true (by omega)
                  have c32 : ¬ (2 : Int) = 0 := by decide
                  have c42 : ¬ (2 : Int) = 1 := by decide
                  simp only [d__law_changed, b__law_changed, ex, exs, ev, evs, evO, evI, fin, Out.bind, Out.bindL, OutL.bind, OutL.bindL, Out.fl, OutL.fl, Fl.seq, Out.get, bindT, bindTs, callO_L, Ou.out_ok, Ou.out_exc, List.getElem?_cons_zero, List.getElem?_cons_succ, List.set_cons_zero, List.set_cons_succ, List.length_cons, List.length_nil, Option.map_some, cmpD, eqS_i, eqS_s, eqS_b, binD, bltD, truth, isTys, isTy, flatD, isNon, isLst, itemsOf, Nat.zero_add, Nat.reduceAdd, Nat.reduceLT, Nat.reduceLeDiff, if_true, if_false, reduceIte, decide_true, decide_false, Bool.not_true, Bool.not_false, runR, and_self, suF, suB, unX, unX1, List.map_cons, List.map_nil, sliD, partD, q, zm, e7, c7, e12, c32, c42, c5, c0, cc]
                · subst e
                  refine (Sd.tup (k := j) (W := 2 * wts xs + 1) (fun a ha => ?_) ?_ (by omega)).mono (by omega) (by rw [wt_tup]; omega)
                  · rcases List.mem_append.mp ha with ha | ha <;> exact hm a ha
                  · rw [wts_app]; omega
              · have h60 : ((xs.length : Nat) : Int) < 10 ^ 60 := by
                  have : (50001 : Int) < 10 ^ 60 := by decide
                  omega
                obtain ⟨p, d3, e3, w3, hp⟩ := draw_nat (P := prg) (i := i) (k := xs.length) (by omega) hl1 w2 (by omega) h60
                have hta := take_at hp
                obtain ⟨t, d4, e4, w4, s4⟩ := ih (i := i) (x := xs[p]) (by omega) w3 (by omega) (hm _ (List.getElem_mem hp)) (by omega) (by omega)
                rw [← hsub] at e4
                have ea : ∀ s, ixD s (.tup xs) (.int (p : Int)) = some xs[p] := fun s => (show atI xs (p : Int) = _ from atI_nat (List.getElem?_eq_getElem hp))
                have ct := cut_to (xs := xs) (p := p) (by omega)
                have cf := cut_from (xs := xs) (p := p + 1) (by omega)
                have cf : Z.cutD xs (some ((p : Int) + 1)) none = xs.drop (p + 1) := cf
                have cc1 : cap ((xs.take p).length + 1) = true := decide_eq_true (by rw [List.length_take]; omega)
                have cc2 : cap ((xs.take p ++ [t]).length + (xs.drop (p + 1)).length) = true := decide_eq_true (by rw [List.length_append, List.length_take, List.length_drop, List.length_singleton]; omega)
                refine ⟨.tup (xs.take p ++ [t] ++ xs.drop (p + 1)), d4, ?_, w4.mono (by omega), ?_⟩
                · simp only [d__law_changed, b__law_changed, ex, exs, ev, evs, evO, evI, fin, Out.bind, Out.bindL, OutL.bind, OutL.bindL, Out.fl, OutL.fl, Fl.seq, Out.get, bindT, bindTs, callO_L, Ou.out_ok, Ou.out_exc, List.getElem?_cons_zero, List.getElem?_cons_succ, List.set_cons_zero, List.set_cons_succ, List.length_cons, List.length_nil, Option.map_some, cmpD, eqS_i, eqS_s, eqS_b, binD, bltD, truth, isTys, isTy, flatD, isNon, isLst, itemsOf, Nat.zero_add, Nat.reduceAdd, Nat.reduceLT, Nat.reduceLeDiff, if_true, if_false, reduceIte, decide_true, decide_false, Bool.not_true, Bool.not_false, runR, and_self, suF, suB, unX, unX1, List.map_cons, List.map_nil, sliD, partD, q, zm, e7, c7, e12, c3, c4, c5, c0, c1, e3, ea, e4, ct, cf, cc1, cc2]
                · subst e
                  refine (Sd.tup (k := j + 1) (W := 2 * wts xs + 6) (fun a ha => ?_) ?_ (by omega)).mono (by omega) (by rw [wt_tup]; omega)
                  · rcases List.mem_append.mp ha with ha | ha
                    · rcases List.mem_append.mp ha with ha | ha
                      · exact tp_up (hm a (List.mem_of_mem_take ha))
                      · rw [List.mem_singleton.mp ha]; exact s4.tp
                    · exact tp_up (hm a (List.mem_of_mem_drop ha))
                  · rw [wts_app, wts_app, wts_cons, wts_nil]
                    have := s4.wt
                    omega
    · obtain ⟨t, d1, e1, w1, s1⟩ := odd h (by omega)
      refine ⟨t, d1, ?_, w1.mono (by omega), s1.mono (by omega) (by omega)⟩
      rcases e3 with rfl | ⟨b, rfl⟩ | ⟨n, rfl⟩ | ⟨z, rfl⟩ <;> simp only [d__law_changed, b__law_changed, ex, exs, ev, evs, evO, evI, fin, Out.bind, Out.bindL, OutL.bind, OutL.bindL, Out.fl, OutL.fl, Fl.seq, Out.get, bindT, bindTs, callO_L, Ou.out_ok, Ou.out_exc, List.getElem?_cons_zero, List.getElem?_cons_succ, List.set_cons_zero, List.set_cons_succ, List.length_cons, List.length_nil, Option.map_some, cmpD, eqS_i, eqS_s, eqS_b, binD, bltD, truth, isTys, isTy, flatD, isNon, isLst, itemsOf, Nat.zero_add, Nat.reduceAdd, Nat.reduceLT, Nat.reduceLeDiff, if_true, if_false, reduceIte, decide_true, decide_false, Bool.not_true, Bool.not_false, runR, and_self, suF, suB, unX, unX1, List.map_cons, List.map_nil, sliD, partD, e1]
end
end K49

namespace K49
open PySem PySem.Spec PyProof.Rows L2 Z Lb
abbrev chE : Ex := .call ("_law_changed", 4, []) [false, false, false, false] [(.v 1), (.v 4), (.v 2), (.c (.int 9))]
def s2 : Stm := .ife (.cmp .inn (.bv 5) (.tup [(.c (.int 1)), (.c (.int 2)), (.c (.int 3))])) [.asg (.nm 4) chE] []
def s3 : Stm := .ife (.cmp .eq (.bv 5) (.c (.int 3))) [.asg (.nm 4) chE] []
def wr : List Stm := [.asg (.nm 4) (.call ("_law_pick", 2, []) [false, false] [(.v 1), (.lst [(.tup [(.c (.str "not")), (.v 4)]), (.tup [(.c (.str "and")), (.tup [(.v 4)])]), (.tup [(.c (.str "or")), (.tup [(.tup [(.c (.str "same")), (.tup [(.tup [(.c (.int 1)), (.neg (.c (.int 1)))])]), (.c (.int 2))]), (.v 4)])])])])]
def s4 : Stm := .ife (.cmp .eq (.bv 5) (.c (.int 4))) [.for (.nm 6) (.rng1 (.bin .add (.c (.int 1)) (.call ("_law_draw", 2, []) [false, false] [(.v 1), (.c (.int 4))]))) wr] []
def LB : List Stm := [
    .asg (.nm 4) (.call ("_law_saying", 3, []) [false, false, false] [(.v 1), (.v 2), (.bin .add (.c (.int 1)) (.call ("_law_draw", 2, []) [false, false] [(.v 1), (.c (.int 4))]))]),
    .asg (.nm 5) (.call ("_law_draw", 2, []) [false, false] [(.v 1), (.c (.int 6))]),
    s2, s3, s4,
    .asg (.nm 7) (.ife (.cmp .eq (.call ("_law_draw", 2, []) [false, false] [(.v 1), (.c (.int 2))]) (.c (.int 0))) (.call ("_law_listed", 1, []) [false] [(.v 4)]) (.v 4)),
    .asg (.nm 8) (.blt .repr [(.bv 7)]),
    .asg (.nm 9) (.call ("_law_fault", 3, []) [false, false, false] [(.v 2), (.v 4), (.c (.int 1))]),
    .asg (.nm 10) (.call ("_law_told", 2, []) [false, false] [(.v 2), (.v 7)]),
    .ife (.orr (.cmp .ne (.blt .repr [(.bv 7)]) (.bv 8)) (.cmp .ne (.ix (.bv 10) (.c (.int 0))) (.cmp .isN (.bv 9) (.c .non)))) [
      .ret (.c (.bl false))] [],
    .ife (.nt (.call ("_law_same", 2, []) [false, false] [(.ix (.bv 10) (.c (.int 1))), (.ife (.cmp .isN (.bv 9) (.c .non)) (.v 4) (.v 9))])) [
      .ret (.c (.bl false))] []]
section
variable {i : Nat} {n : Int} {d : D} {w : Nat} {ns : List Int} {u : D} {z4 z5 z6 z7 z8 z9 z10 : Sl}
/-- wrapped once more -/
theorem wraps_ok {k W : Nat} {x y : D} (h : Sd k W x) (hk : 3 ≤ k) (hW : W ≤ 20000) (hy : y ∈ [D.tup [.str "not", x], .tup [.str "and", .tup [x]], .tup [.str "or", .tup [.tup [.str "same", .tup [.tup [.int 1, .int (-1)]], .int 2], x]]]) : Sd (k + 2) (W + 30) y := by
  have st : ∀ (z : Str) (k : Nat), wds.contains z = true → K49.tp false k (.str z) = true := fun z k h => (Sd.str (k := k) (W := 1) h (by decide)).tp
  simp only [List.mem_cons, List.not_mem_nil, or_false] at hy
  have hw := h.wt
  have one : Sd (k + 1) (W + 1) (.tup [x]) := Sd.tup (fun a ha => by rw [List.mem_singleton.mp ha]; exact h.tp) (by rw [wts_cons, wts_nil]; omega) (by omega)
  rcases hy with rfl | rfl | rfl
  · refine (Sd.tup (k := k) (W := W + 2) (fun a ha => ?_) ?_ (by omega)).mono (by omega) (by omega)
    · simp only [List.mem_cons, List.not_mem_nil, or_false] at ha
      rcases ha with rfl | rfl
      · exact st _ _ (by decide +kernel)
      · exact h.tp
    · rw [wts_cons, wts_cons, wts_nil, wt_flat rfl]; omega
  · refine (Sd.tup (k := k + 1) (W := W + 3) (fun a ha => ?_) ?_ (by omega)).mono (by omega) (by omega)
    · simp only [List.mem_cons, List.not_mem_nil, or_false] at ha
      rcases ha with rfl | rfl
      · exact st _ _ (by decide +kernel)
      · exact one.tp
    · rw [wts_cons, wts_cons, wts_nil, wt_flat rfl]
      have := one.wt
      omega
  · have c : Sd 3 10 (.tup [.str "same", .tup [.tup [.int 1, .int (-1)]], .int 2]) := ⟨by decide +kernel, by simp [wt, wts]⟩
    have two : Sd (k + 1) (W + 11) (.tup [.tup [.str "same", .tup [.tup [.int 1, .int (-1)]], .int 2], x]) := by
      refine Sd.tup (fun a ha => ?_) ?_ (by omega)
      · simp only [List.mem_cons, List.not_mem_nil, or_false] at ha
        rcases ha with rfl | rfl
        · exact tp_ups c.tp hk
        · exact h.tp
      · rw [wts_cons, wts_cons, wts_nil]
        have := c.wt
        omega
    refine (Sd.tup (k := k + 1) (W := W + 13) (fun a ha => ?_) ?_ (by omega)).mono (by omega) (by omega)
    · simp only [List.mem_cons, List.not_mem_nil, or_false] at ha
      rcases ha with rfl | rfl
      · exact st _ _ (by decide +kernel)
      · exact two.tp
    · rw [wts_cons, wts_cons, wts_nil, wt_flat rfl]
      have := two.wt
      omega
theorem s2_ok (hi : 14 ≤ i) (hw : w ≤ 4) {kd : Nat} (hk : kd < 6) {x : D} (hx : Sd 9 2375 x) (h : WF n d) (hn : n ≤ 400000) : ∃ (y d' : D), ex (fnL prg i) s2 [.im (.scr ns), .im (.mref 0), .im (.int (w : Nat)), .im u, .im x, .im (.int (kd : Int)), z6, z7, z8, z9, z10] [d] = .nx [.im (.scr ns), .im (.mref 0), .im (.int (w : Nat)), .im u, .im y, .im (.int (kd : Int)), z6, z7, z8, z9, z10] [d'] ∧ WF (n + 30) d' ∧ Sd 10 4754 y ∧ (kd = 0 ∨ 3 < kd → y = x) := by
  obtain ⟨y, d1, e1, w1, s1⟩ := changed_ok hw 9 (i := i) (n := n) (d := d) (k := 9) (x := x) (by omega) h (by omega) hx.tp (by decide) (by have := hx.wt; omega)
  have e1 : Z.Cl prg i ("_law_changed", 4, []) [.mref 0, x, .int (w : Nat), .int 9] [d] = .ok y [d1] := e1
  have c3 : cap 3 = true := rfl
  by_cases c : kd = 0 ∨ 3 < kd
  · have m : memD (.int (kd : Int)) (.tup [.int 1, .int 2, .int 3]) = some false := by
      have : kd = 0 ∨ kd = 4 ∨ kd = 5 := by omega
      rcases this with rfl | rfl | rfl <;> decide +kernel
    exact ⟨x, d, by simp only [s2, ex, exs, ev, evs, evO, evI, fin, Out.bind, Out.bindL, OutL.bind, OutL.bindL, Out.fl, OutL.fl, Fl.seq, Out.get, bindT, bindTs, callO_L, Ou.out_ok, Ou.out_exc, List.getElem?_cons_zero, List.getElem?_cons_succ, List.set_cons_zero, List.set_cons_succ, List.length_cons, List.length_nil, Option.map_some, cmpD, eqS_i, eqS_s, eqS_b, binD, bltD, truth, isTys, isTy, flatD, isNon, isLst, itemsOf, Nat.zero_add, Nat.reduceAdd, Nat.reduceLT, Nat.reduceLeDiff, if_true, if_false, reduceIte, decide_true, decide_false, Bool.not_true, Bool.not_false, runR, and_self, suF, suB, unX, unX1, List.map_cons, List.map_nil, sliD, partD, c3, m], h.mono (by omega), hx.mono (by decide) (by decide), fun _ => rfl⟩
  · have m : memD (.int (kd : Int)) (.tup [.int 1, .int 2, .int 3]) = some true := by
      have : kd = 1 ∨ kd = 2 ∨ kd = 3 := by omega
      rcases this with rfl | rfl | rfl <;> decide +kernel
    exact ⟨y, d1, by simp only [s2, ex, exs, ev, evs, evO, evI, fin, Out.bind, Out.bindL, OutL.bind, OutL.bindL, Out.fl, OutL.fl, Fl.seq, Out.get, bindT, bindTs, callO_L, Ou.out_ok, Ou.out_exc, List.getElem?_cons_zero, List.getElem?_cons_succ, List.set_cons_zero, List.set_cons_succ, List.length_cons, List.length_nil, Option.map_some, cmpD, eqS_i, eqS_s, eqS_b, binD, bltD, truth, isTys, isTy, flatD, isNon, isLst, itemsOf, Nat.zero_add, Nat.reduceAdd, Nat.reduceLT, Nat.reduceLeDiff, if_true, if_false, reduceIte, decide_true, decide_false, Bool.not_true, Bool.not_false, runR, and_self, suF, suB, unX, unX1, List.map_cons, List.map_nil, sliD, partD, c3, m, e1], w1.mono (by omega), s1.mono (by decide) (by have := hx.wt; omega), fun z => absurd z c⟩
theorem s3_ok (hi : 14 ≤ i) (hw : w ≤ 4) {kd : Nat} {x : D} (hx : Sd 10 4754 x) (h : WF n d) (hn : n ≤ 400000) : ∃ (y d' : D), ex (fnL prg i) s3 [.im (.scr ns), .im (.mref 0), .im (.int (w : Nat)), .im u, .im x, .im (.int (kd : Int)), z6, z7, z8, z9, z10] [d] = .nx [.im (.scr ns), .im (.mref 0), .im (.int (w : Nat)), .im u, .im y, .im (.int (kd : Int)), z6, z7, z8, z9, z10] [d'] ∧ WF (n + 30) d' ∧ Sd 11 9512 y ∧ (kd ≠ 3 → y = x) := by
  obtain ⟨y, d1, e1, w1, s1⟩ := changed_ok hw 9 (i := i) (n := n) (d := d) (k := 10) (x := x) (by omega) h (by omega) hx.tp (by decide) (by have := hx.wt; omega)
  have e1 : Z.Cl prg i ("_law_changed", 4, []) [.mref 0, x, .int (w : Nat), .int 9] [d] = .ok y [d1] := e1
  by_cases c : kd = 3
  · have m : ((kd : Nat) : Int) = 3 := by omega
    exact ⟨y, d1, by simp only [s3, ex, exs, ev, evs, evO, evI, fin, Out.bind, Out.bindL, OutL.bind, OutL.bindL, Out.fl, OutL.fl, Fl.seq, Out.get, bindT, bindTs, callO_L, Ou.out_ok, Ou.out_exc, List.getElem?_cons_zero, List.getElem?_cons_succ, List.set_cons_zero, List.set_cons_succ, List.length_cons, List.length_nil, Option.map_some, cmpD, eqS_i, eqS_s, eqS_b, binD, bltD, truth, isTys, isTy, flatD, isNon, isLst, itemsOf, Nat.zero_add, Nat.reduceAdd, Nat.reduceLT, Nat.reduceLeDiff, if_true, if_false, reduceIte, decide_true, decide_false, Bool.not_true, Bool.not_false, runR, and_self, suF, suB, unX, unX1, List.map_cons, List.map_nil, sliD, partD, m, e1], w1.mono (by omega), s1.mono (by decide) (by have := hx.wt; omega), fun z => absurd c z⟩
  · have m : ¬ ((kd : Nat) : Int) = 3 := by omega
    exact ⟨x, d, by simp only [s3, ex, exs, ev, evs, evO, evI, fin, Out.bind, Out.bindL, OutL.bind, OutL.bindL, Out.fl, OutL.fl, Fl.seq, Out.get, bindT, bindTs, callO_L, Ou.out_ok, Ou.out_exc, List.getElem?_cons_zero, List.getElem?_cons_succ, List.set_cons_zero, List.set_cons_succ, List.length_cons, List.length_nil, Option.map_some, cmpD, eqS_i, eqS_s, eqS_b, binD, bltD, truth, isTys, isTy, flatD, isNon, isLst, itemsOf, Nat.zero_add, Nat.reduceAdd, Nat.reduceLT, Nat.reduceLeDiff, if_true, if_false, reduceIte, decide_true, decide_false, Bool.not_true, Bool.not_false, runR, and_self, suF, suB, unX, unX1, List.map_cons, List.map_nil, sliD, partD, m], h.mono (by omega), hx.mono (by decide) (by decide), fun _ => rfl⟩
theorem s4_ok (hi : 14 ≤ i) {kd : Nat} {x : D} (hx : Sd 11 9512 x) (h9 : kd = 4 → Sd 9 2375 x) (h : WF n d) (hn : n ≤ 400000) : ∃ (y d' : D) (q : Sl), ex (fnL prg i) s4 [.im (.scr ns), .im (.mref 0), .im (.int (w : Nat)), .im u, .im x, .im (.int (kd : Int)), z6, z7, z8, z9, z10] [d] = .nx [.im (.scr ns), .im (.mref 0), .im (.int (w : Nat)), .im u, .im y, .im (.int (kd : Int)), q, z7, z8, z9, z10] [d'] ∧ WF (n + 10) d' ∧ Sd 17 9512 y := by
  by_cases c : kd = 4
  · have m : ((kd : Nat) : Int) = 4 := by omega
    obtain ⟨r, d1, e1, w1, r1⟩ := draw_nat (P := prg) (i := i) (k := 4) (by omega) (by decide) h (by omega) (by decide)
    have e1 : Z.Cl prg i ("_law_draw", 2, []) [.mref 0, .int 4] [d] = .ok (.int (r : Int)) [d1] := e1
    have hlr : (rangeD 0 (1 + r)).length = 1 + r := by simp [rangeD]
    obtain ⟨ρ', s', L, y, q, d2, q1, q2, q3, q4⟩ := lp_inv (f := lpB (fnL prg i) (.nm 6) wr) (fun k ρ s' => ∃ (y : D) (q : Sl) (d2 : D), ρ = [.im (.scr ns), .im (.mref 0), .im (.int (w : Nat)), .im u, .im y, .im (.int (kd : Int)), q, z7, z8, z9, z10] ∧ s' = [d2] ∧ WF (n + 1 + k) d2 ∧ Sd (9 + 2 * k) (2375 + 30 * k) y) (rangeD 0 (1 + r)) 0 (ρ := [.im (.scr ns), .im (.mref 0), .im (.int (w : Nat)), .im u, .im x, .im (.int (kd : Int)), z6, z7, z8, z9, z10]) (s := [d1]) ⟨x, z6, d1, rfl, rfl, by simpa using w1, by simpa using h9 c⟩ fun k a ρ s' ha ⟨y, q, d2, q1, q2, q3, q4⟩ => by
      have hk : k < 1 + r := by have := (List.getElem?_eq_some_iff.mp ha).1; omega
      subst q1 q2
      obtain ⟨y2, d3, hy, e3, w3⟩ := pick_ok (i := i) (by omega) q3 (by omega) (xs := [D.tup [.str "not", y], .tup [.str "and", .tup [y]], .tup [.str "or", .tup [.tup [.str "same", .tup [.tup [.int 1, .int (-1)]], .int 2], y]]]) (by simp) (by simp)
      have k1 : cap 1 = true := rfl
      have k2 : cap 2 = true := rfl
      have k3 : cap 3 = true := rfl
      refine ⟨_, [d3], ?_, y2, .im a, d3, rfl, rfl, w3.mono (by omega), ?_⟩
      · rw [lpB_eq (ρ' := [.im (.scr ns), .im (.mref 0), .im (.int (w : Nat)), .im u, .im y, .im (.int (kd : Int)), .im a, z7, z8, z9, z10]) rfl]
        simp only [wr, ex, exs, ev, evs, evO, evI, fin, Out.bind, Out.bindL, OutL.bind, OutL.bindL, Out.fl, OutL.fl, Fl.seq, Out.get, bindT, bindTs, callO_L, Ou.out_ok, Ou.out_exc, List.getElem?_cons_zero, List.getElem?_cons_succ, List.set_cons_zero, List.set_cons_succ, List.length_cons, List.length_nil, Option.map_some, cmpD, eqS_i, eqS_s, eqS_b, binD, bltD, truth, isTys, isTy, flatD, isNon, isLst, itemsOf, Nat.zero_add, Nat.reduceAdd, Nat.reduceLT, Nat.reduceLeDiff, if_true, if_false, reduceIte, decide_true, decide_false, Bool.not_true, Bool.not_false, runR, and_self, suF, suB, unX, unX1, List.map_cons, List.map_nil, sliD, partD, k1, k2, k3, e3]
      · exact (wraps_ok q4 (by omega) (by omega) hy).mono (by omega) (by omega)
    subst q1 q2
    rw [hlr, Nat.zero_add] at q3 q4
    refine ⟨y, d2, q, ?_, q3.mono (by omega), q4.mono (by omega) (by omega)⟩
    have et : ev (fnL prg i) (.cmp .eq (.bv 5) (.c (.int 4))) true [.im (.scr ns), .im (.mref 0), .im (.int (w : Nat)), .im u, .im x, .im (.int (kd : Int)), z6, z7, z8, z9, z10] [d] = .ok (.bl true) [.im (.scr ns), .im (.mref 0), .im (.int (w : Nat)), .im u, .im x, .im (.int (kd : Int)), z6, z7, z8, z9, z10] [d] := by simp only [ex, exs, ev, evs, evO, evI, fin, Out.bind, Out.bindL, OutL.bind, OutL.bindL, Out.fl, OutL.fl, Fl.seq, Out.get, bindT, bindTs, callO_L, Ou.out_ok, Ou.out_exc, List.getElem?_cons_zero, List.getElem?_cons_succ, List.set_cons_zero, List.set_cons_succ, List.length_cons, List.length_nil, Option.map_some, cmpD, eqS_i, eqS_s, eqS_b, binD, bltD, truth, isTys, isTy, flatD, isNon, isLst, itemsOf, Nat.zero_add, Nat.reduceAdd, Nat.reduceLT, Nat.reduceLeDiff, if_true, if_false, reduceIte, decide_true, decide_false, Bool.not_true, Bool.not_false, runR, and_self, suF, suB, unX, unX1, List.map_cons, List.map_nil, sliD, partD, m]
    have c1 : ((1 : Int) + (r : Int) ≤ 100000 ∧ -100000 ≤ (1 : Int) + (r : Int)) := by omega
    have c2 : ((1 : Int) + (r : Int)).toNat = 1 + r := by omega
    have er : evI (fnL prg i) (.rng1 (.bin .add (.c (.int 1)) (.call ("_law_draw", 2, []) [false, false] [(.v 1), (.c (.int 4))]))) [.im (.scr ns), .im (.mref 0), .im (.int (w : Nat)), .im u, .im x, .im (.int (kd : Int)), z6, z7, z8, z9, z10] [d] = .ok (.lst (rangeD 0 (1 + r))) [.im (.scr ns), .im (.mref 0), .im (.int (w : Nat)), .im u, .im x, .im (.int (kd : Int)), z6, z7, z8, z9, z10] [d1] := by simp only [ex, exs, ev, evs, evO, evI, fin, Out.bind, Out.bindL, OutL.bind, OutL.bindL, Out.fl, OutL.fl, Fl.seq, Out.get, bindT, bindTs, callO_L, Ou.out_ok, Ou.out_exc, List.getElem?_cons_zero, List.getElem?_cons_succ, List.set_cons_zero, List.set_cons_succ, List.length_cons, List.length_nil, Option.map_some, cmpD, eqS_i, eqS_s, eqS_b, binD, bltD, truth, isTys, isTy, flatD, isNon, isLst, itemsOf, Nat.zero_add, Nat.reduceAdd, Nat.reduceLT, Nat.reduceLeDiff, if_true, if_false, reduceIte, decide_true, decide_false, Bool.not_true, Bool.not_false, runR, and_self, suF, suB, unX, unX1, List.map_cons, List.map_nil, sliD, partD, e1, c1, c2]
    unfold s4
    rw [ex_ifT et, sq_nx ((ex_for er rfl).trans L)]
    rfl
  · have m : ¬ ((kd : Nat) : Int) = 4 := by omega
    exact ⟨x, d, z6, by simp only [s4, ex, exs, ev, evs, evO, evI, fin, Out.bind, Out.bindL, OutL.bind, OutL.bindL, Out.fl, OutL.fl, Fl.seq, Out.get, bindT, bindTs, callO_L, Ou.out_ok, Ou.out_exc, List.getElem?_cons_zero, List.getElem?_cons_succ, List.set_cons_zero, List.set_cons_succ, List.length_cons, List.length_nil, Option.map_some, cmpD, eqS_i, eqS_s, eqS_b, binD, bltD, truth, isTys, isTy, flatD, isNon, isLst, itemsOf, Nat.zero_add, Nat.reduceAdd, Nat.reduceLT, Nat.reduceLeDiff, if_true, if_false, reduceIte, decide_true, decide_false, Bool.not_true, Bool.not_false, runR, and_self, suF, suB, unX, unX1, List.map_cons, List.map_nil, sliD, partD, m], h.mono (by omega), hx.mono (by decide) (by decide)⟩
theorem turn_ok (hi : 40 ≤ i) (hw : w ≤ 4) (h : WF n d) (hn : n ≤ 300000) : ∃ (a4 a5 a6 a7 a8 a9 a10 : Sl) (d' : D), exs (fnL prg i) LB [.im (.scr ns), .im (.mref 0), .im (.int (w : Nat)), .im u, z4, z5, z6, z7, z8, z9, z10] [d] = .nx [.im (.scr ns), .im (.mref 0), .im (.int (w : Nat)), .im u, a4, a5, a6, a7, a8, a9, a10] [d'] ∧ WF (n + 3000) d' := by
  obtain ⟨r, d1, e1, w1, r1⟩ := draw_nat (P := prg) (i := i) (k := 4) (by omega) (by decide) h (by omega) (by decide)
  have e1 : Z.Cl prg i ("_law_draw", 2, []) [.mref 0, .int 4] [d] = .ok (.int (r : Int)) [d1] := e1
  have p2 : 5 ^ r ≤ 125 := Nat.pow_le_pow_right (show 5 > 0 by decide) (show r ≤ 3 by omega)
  obtain ⟨x0, d2, e2, w2, s2'⟩ := saying_ok hw r (by omega) (i := i) (by omega) w1 (by omega)
  have hcm : (r : Int) + 1 = 1 + (r : Int) := by omega
  rw [hcm] at e2
  have hx0 : Sd 9 2375 x0 := s2'.mono (by omega) (by omega)
  obtain ⟨kd, d3, e3, w3, k1⟩ := draw_nat (P := prg) (i := i) (k := 6) (by omega) (by decide) w2 (by omega) (by decide)
  have e3 : Z.Cl prg i ("_law_draw", 2, []) [.mref 0, .int 6] [d2] = .ok (.int (kd : Int)) [d3] := e3
  obtain ⟨x1, d4, e4, w4, hx1, f1⟩ := s2_ok (i := i) (ns := ns) (u := u) (z6 := z6) (z7 := z7) (z8 := z8) (z9 := z9) (z10 := z10) (by omega) hw k1 hx0 w3 (by omega)
  obtain ⟨x2, d5, e5, w5, hx2, f2⟩ := s3_ok (i := i) (ns := ns) (u := u) (kd := kd) (z6 := z6) (z7 := z7) (z8 := z8) (z9 := z9) (z10 := z10) (by omega) hw hx1 w4 (by omega)
  obtain ⟨x, d6, q6, e6, w6, hx⟩ := s4_ok (i := i) (ns := ns) (w := w) (u := u) (kd := kd) (z6 := z6) (z7 := z7) (z8 := z8) (z9 := z9) (z10 := z10) (by omega) hx2 (fun c => by rw [f2 (by omega), f1 (by omega)]; exact hx0) w5 (by omega)
  obtain ⟨b, d7, e7, w7, b1⟩ := draw_nat (P := prg) (i := i) (k := 2) (by omega) (by decide) w6 (by omega) (by decide)
  have e7 : Z.Cl prg i ("_law_draw", 2, []) [.mref 0, .int 2] [d6] = .ok (.int (b : Int)) [d7] := e7
  have hli := listed_ok (i := i) (s := [d7]) (k := 17) (by omega) hx.tp
  obtain ⟨hd, hh, eh⟩ : ∃ hd, (hd = x ∨ hd = li x) ∧ ev (fnL prg i) (.ife (.cmp .eq (.call ("_law_draw", 2, []) [false, false] [(.v 1), (.c (.int 2))]) (.c (.int 0))) (.call ("_law_listed", 1, []) [false] [(.v 4)]) (.v 4)) false [.im (.scr ns), .im (.mref 0), .im (.int (w : Nat)), .im u, .im x, .im (.int (kd : Int)), q6, z7, z8, z9, z10] [d6] = .ok hd [.im (.scr ns), .im (.mref 0), .im (.int (w : Nat)), .im u, .im x, .im (.int (kd : Int)), q6, z7, z8, z9, z10] [d7] := by
    by_cases c : (b : Int) = 0
    · exact ⟨li x, .inr rfl, by simp only [ex, exs, ev, evs, evO, evI, fin, Out.bind, Out.bindL, OutL.bind, OutL.bindL, Out.fl, OutL.fl, Fl.seq, Out.get, bindT, bindTs, callO_L, Ou.out_ok, Ou.out_exc, List.getElem?_cons_zero, List.getElem?_cons_succ, List.set_cons_zero, List.set_cons_succ, List.length_cons, List.length_nil, Option.map_some, cmpD, eqS_i, eqS_s, eqS_b, binD, bltD, truth, isTys, isTy, flatD, isNon, isLst, itemsOf, Nat.zero_add, Nat.reduceAdd, Nat.reduceLT, Nat.reduceLeDiff, if_true, if_false, reduceIte, decide_true, decide_false, Bool.not_true, Bool.not_false, runR, and_self, suF, suB, unX, unX1, List.map_cons, List.map_nil, sliD, partD, e7, c, hli]⟩
    · exact ⟨x, .inl rfl, by simp only [ex, exs, ev, evs, evO, evI, fin, Out.bind, Out.bindL, OutL.bind, OutL.bindL, Out.fl, OutL.fl, Fl.seq, Out.get, bindT, bindTs, callO_L, Ou.out_ok, Ou.out_exc, List.getElem?_cons_zero, List.getElem?_cons_succ, List.set_cons_zero, List.set_cons_succ, List.length_cons, List.length_nil, Option.map_some, cmpD, eqS_i, eqS_s, eqS_b, binD, bltD, truth, isTys, isTy, flatD, isNon, isLst, itemsOf, Nat.zero_add, Nat.reduceAdd, Nat.reduceLT, Nat.reduceLeDiff, if_true, if_false, reduceIte, decide_true, decide_false, Bool.not_true, Bool.not_false, runR, and_self, suF, suB, unX, unX1, List.map_cons, List.map_nil, sliD, partD, e7, c]⟩
  obtain ⟨zr, er⟩ : ∃ z, ∀ s, bltD s .repr [hd] = some (.str z) := by
    rcases hh with rfl | rfl
    · exact repr_ok hx.tp (by decide) (by have := hx.wt; omega)
    · exact repr_ok (tp_li hx.tp) (by decide) (by rw [wt_li hx.tp]; have := hx.wt; omega)
  have ef : Z.Cl prg i ("_law_fault", 3, []) [.int (w : Nat), x, .int 1] [d7] = .ok (oD (faultF (w : Nat) 3 x)) [d7] := lfault_ok 3 (by omega) (by decide) hx.tp (by decide)
  have et := told_ok (i := i) (s := [d7]) (w := ((w : Nat) : Int)) (k := 17) (by omega) (by decide) hx.tp hh
  have es := same_ok (i := i) (s := [d7]) (k := 17) (by omega) hx.tp
  have esz := fun z : Str => same_flat (i := i) (s := [d7]) (d := .str z) (by omega) (.inr (.inr (.inr ⟨z, rfl⟩)))
  have r8 : ∀ ρ : En, ρ[7]? = some (.im hd) → ev (fnL prg i) (.blt .repr [(.bv 7)]) false ρ [d7] = .ok (.str zr) ρ [d7] := fun ρ hρ => by
    simp only [ev.eq_def (fnL prg i) (.blt _ _), ev.eq_def (fnL prg i) (.bv _), evs, hρ, Z.fin, Out.bind, Out.bindL, OutL.bind, OutL.bindL, Out.get, er]
  refine ⟨.im x, .im (.int (kd : Int)), q6, .im hd, .im (.str zr), .im (oD (faultF (w : Nat) 3 x)), .im (toldD (faultF (w : Nat) 3 x) x), d7, ?_, w7.mono (by omega)⟩
  unfold LB
  rw [sq_nx (ρ' := [.im (.scr ns), .im (.mref 0), .im (.int (w : Nat)), .im u, .im x0, z5, z6, z7, z8, z9, z10]) (s' := [d2]) (by simp only [ex, exs, ev, evs, evO, evI, fin, Out.bind, Out.bindL, OutL.bind, OutL.bindL, Out.fl, OutL.fl, Fl.seq, Out.get, bindT, bindTs, callO_L, Ou.out_ok, Ou.out_exc, List.getElem?_cons_zero, List.getElem?_cons_succ, List.set_cons_zero, List.set_cons_succ, List.length_cons, List.length_nil, Option.map_some, cmpD, eqS_i, eqS_s, eqS_b, binD, bltD, truth, isTys, isTy, flatD, isNon, isLst, itemsOf, Nat.zero_add, Nat.reduceAdd, Nat.reduceLT, Nat.reduceLeDiff, if_true, if_false, reduceIte, decide_true, decide_false, Bool.not_true, Bool.not_false, runR, and_self, suF, suB, unX, unX1, List.map_cons, List.map_nil, sliD, partD, e1, e2])]
  rw [sq_nx (ρ' := [.im (.scr ns), .im (.mref 0), .im (.int (w : Nat)), .im u, .im x0, .im (.int (kd : Int)), z6, z7, z8, z9, z10]) (s' := [d3]) (by simp only [ex, exs, ev, evs, evO, evI, fin, Out.bind, Out.bindL, OutL.bind, OutL.bindL, Out.fl, OutL.fl, Fl.seq, Out.get, bindT, bindTs, callO_L, Ou.out_ok, Ou.out_exc, List.getElem?_cons_zero, List.getElem?_cons_succ, List.set_cons_zero, List.set_cons_succ, List.length_cons, List.length_nil, Option.map_some, cmpD, eqS_i, eqS_s, eqS_b, binD, bltD, truth, isTys, isTy, flatD, isNon, isLst, itemsOf, Nat.zero_add, Nat.reduceAdd, Nat.reduceLT, Nat.reduceLeDiff, if_true, if_false, reduceIte, decide_true, decide_false, Bool.not_true, Bool.not_false, runR, and_self, suF, suB, unX, unX1, List.map_cons, List.map_nil, sliD, partD, e3])]
  rw [sq_nx e4, sq_nx e5, sq_nx e6]
  rw [sq_nx (ρ' := [.im (.scr ns), .im (.mref 0), .im (.int (w : Nat)), .im u, .im x, .im (.int (kd : Int)), q6, .im hd, z8, z9, z10]) (s' := [d7]) (ex_asg eh rfl)]
  rw [sq_nx (ρ' := [.im (.scr ns), .im (.mref 0), .im (.int (w : Nat)), .im u, .im x, .im (.int (kd : Int)), q6, .im hd, .im (.str zr), z9, z10]) (s' := [d7]) (ex_asg (r8 _ rfl) rfl)]
  rw [sq_nx (ρ' := [.im (.scr ns), .im (.mref 0), .im (.int (w : Nat)), .im u, .im x, .im (.int (kd : Int)), q6, .im hd, .im (.str zr), .im (oD (faultF (w : Nat) 3 x)), z10]) (s' := [d7]) (by simp only [ex, exs, ev, evs, evO, evI, fin, Out.bind, Out.bindL, OutL.bind, OutL.bindL, Out.fl, OutL.fl, Fl.seq, Out.get, bindT, bindTs, callO_L, Ou.out_ok, Ou.out_exc, List.getElem?_cons_zero, List.getElem?_cons_succ, List.set_cons_zero, List.set_cons_succ, List.length_cons, List.length_nil, Option.map_some, cmpD, eqS_i, eqS_s, eqS_b, binD, bltD, truth, isTys, isTy, flatD, isNon, isLst, itemsOf, Nat.zero_add, Nat.reduceAdd, Nat.reduceLT, Nat.reduceLeDiff, if_true, if_false, reduceIte, decide_true, decide_false, Bool.not_true, Bool.not_false, runR, and_self, suF, suB, unX, unX1, List.map_cons, List.map_nil, sliD, partD, ef])]
  rw [sq_nx (ρ' := [.im (.scr ns), .im (.mref 0), .im (.int (w : Nat)), .im u, .im x, .im (.int (kd : Int)), q6, .im hd, .im (.str zr), .im (oD (faultF (w : Nat) 3 x)), .im (toldD (faultF (w : Nat) 3 x) x)]) (s' := [d7]) (by simp only [ex, exs, ev, evs, evO, evI, fin, Out.bind, Out.bindL, OutL.bind, OutL.bindL, Out.fl, OutL.fl, Fl.seq, Out.get, bindT, bindTs, callO_L, Ou.out_ok, Ou.out_exc, List.getElem?_cons_zero, List.getElem?_cons_succ, List.set_cons_zero, List.set_cons_succ, List.length_cons, List.length_nil, Option.map_some, cmpD, eqS_i, eqS_s, eqS_b, binD, bltD, truth, isTys, isTy, flatD, isNon, isLst, itemsOf, Nat.zero_add, Nat.reduceAdd, Nat.reduceLT, Nat.reduceLeDiff, if_true, if_false, reduceIte, decide_true, decide_false, Bool.not_true, Bool.not_false, runR, and_self, suF, suB, unX, unX1, List.map_cons, List.map_nil, sliD, partD, et])]
  have n9 : ev (fnL prg i) (.cmp .ne (.blt .repr [(.bv 7)]) (.bv 8)) true [.im (.scr ns), .im (.mref 0), .im (.int (w : Nat)), .im u, .im x, .im (.int (kd : Int)), q6, .im hd, .im (.str zr), .im (oD (faultF (w : Nat) 3 x)), .im (toldD (faultF (w : Nat) 3 x) x)] [d7] = .ok (.bl false) [.im (.scr ns), .im (.mref 0), .im (.int (w : Nat)), .im u, .im x, .im (.int (kd : Int)), q6, .im hd, .im (.str zr), .im (oD (faultF (w : Nat) 3 x)), .im (toldD (faultF (w : Nat) 3 x) x)] [d7] := by
    show Z.fin true ((ev (fnL prg i) (.blt .repr [(.bv 7)]) false _ [d7]).bind _) = _
    rw [r8 _ rfl]
    simp only [ex, exs, ev, evs, evO, evI, fin, Out.bind, Out.bindL, OutL.bind, OutL.bindL, Out.fl, OutL.fl, Fl.seq, Out.get, bindT, bindTs, callO_L, Ou.out_ok, Ou.out_exc, List.getElem?_cons_zero, List.getElem?_cons_succ, List.set_cons_zero, List.set_cons_succ, List.length_cons, List.length_nil, Option.map_some, cmpD, eqS_i, eqS_s, eqS_b, binD, bltD, truth, isTys, isTy, flatD, isNon, isLst, itemsOf, Nat.zero_add, Nat.reduceAdd, Nat.reduceLT, Nat.reduceLeDiff, if_true, if_false, reduceIte, decide_true, decide_false, Bool.not_true, Bool.not_false, runR, and_self, suF, suB, unX, unX1, List.map_cons, List.map_nil, sliD, partD, eq_self]
  have o9 : ∀ f, faultF (w : Nat) 3 x = f → ev (fnL prg i) (.cmp .ne (.ix (.bv 10) (.c (.int 0))) (.cmp .isN (.bv 9) (.c .non))) true [.im (.scr ns), .im (.mref 0), .im (.int (w : Nat)), .im u, .im x, .im (.int (kd : Int)), q6, .im hd, .im (.str zr), .im (oD (faultF (w : Nat) 3 x)), .im (toldD (faultF (w : Nat) 3 x) x)] [d7] = .ok (.bl false) [.im (.scr ns), .im (.mref 0), .im (.int (w : Nat)), .im u, .im x, .im (.int (kd : Int)), q6, .im hd, .im (.str zr), .im (oD (faultF (w : Nat) 3 x)), .im (toldD (faultF (w : Nat) 3 x) x)] [d7] := fun f hf => by
    rw [hf]
    have t0 : ixD [d7] (toldD f x) (.int 0) = some (.bl (decide (f = none))) := atI0 _ _
    cases f with
    | none => simp only [ex, exs, ev, evs, evO, evI, fin, Out.bind, Out.bindL, OutL.bind, OutL.bindL, Out.fl, OutL.fl, Fl.seq, Out.get, bindT, bindTs, callO_L, Ou.out_ok, Ou.out_exc, List.getElem?_cons_zero, List.getElem?_cons_succ, List.set_cons_zero, List.set_cons_succ, List.length_cons, List.length_nil, Option.map_some, cmpD, eqS_i, eqS_s, eqS_b, binD, bltD, truth, isTys, isTy, flatD, isNon, isLst, itemsOf, Nat.zero_add, Nat.reduceAdd, Nat.reduceLT, Nat.reduceLeDiff, if_true, if_false, reduceIte, decide_true, decide_false, Bool.not_true, Bool.not_false, runR, and_self, suF, suB, unX, unX1, List.map_cons, List.map_nil, sliD, partD, t0, oD, isNon, eq_self]
    | some y => simp only [ex, exs, ev, evs, evO, evI, fin, Out.bind, Out.bindL, OutL.bind, OutL.bindL, Out.fl, OutL.fl, Fl.seq, Out.get, bindT, bindTs, callO_L, Ou.out_ok, Ou.out_exc, List.getElem?_cons_zero, List.getElem?_cons_succ, List.set_cons_zero, List.set_cons_succ, List.length_cons, List.length_nil, Option.map_some, cmpD, eqS_i, eqS_s, eqS_b, binD, bltD, truth, isTys, isTy, flatD, isNon, isLst, itemsOf, Nat.zero_add, Nat.reduceAdd, Nat.reduceLT, Nat.reduceLeDiff, if_true, if_false, reduceIte, decide_true, decide_false, Bool.not_true, Bool.not_false, runR, and_self, suF, suB, unX, unX1, List.map_cons, List.map_nil, sliD, partD, t0, oD, isNon, eq_self, reduceCtorEq]
  rw [sq_nx (ρ' := [.im (.scr ns), .im (.mref 0), .im (.int (w : Nat)), .im u, .im x, .im (.int (kd : Int)), q6, .im hd, .im (.str zr), .im (oD (faultF (w : Nat) 3 x)), .im (toldD (faultF (w : Nat) 3 x) x)]) (s' := [d7]) ((ex_ifF (by
    show (ev (fnL prg i) (.cmp .ne (.blt .repr [(.bv 7)]) (.bv 8)) true [.im (.scr ns), .im (.mref 0), .im (.int (w : Nat)), .im u, .im x, .im (.int (kd : Int)), q6, .im hd, .im (.str zr), .im (oD (faultF (w : Nat) 3 x)), .im (toldD (faultF (w : Nat) 3 x) x)] [d7]).bind _ = .ok (.bl false) [.im (.scr ns), .im (.mref 0), .im (.int (w : Nat)), .im u, .im x, .im (.int (kd : Int)), q6, .im hd, .im (.str zr), .im (oD (faultF (w : Nat) 3 x)), .im (toldD (faultF (w : Nat) 3 x) x)] [d7]
    rw [n9]
    exact o9 _ rfl)).trans rfl)]
  have p9 : ∀ f, faultF (w : Nat) 3 x = f → exs (fnL prg i) [.ife (.nt (.call ("_law_same", 2, []) [false, false] [(.ix (.bv 10) (.c (.int 1))), (.ife (.cmp .isN (.bv 9) (.c .non)) (.v 4) (.v 9))])) [.ret (.c (.bl false))] []] [.im (.scr ns), .im (.mref 0), .im (.int (w : Nat)), .im u, .im x, .im (.int (kd : Int)), q6, .im hd, .im (.str zr), .im (oD (faultF (w : Nat) 3 x)), .im (toldD (faultF (w : Nat) 3 x) x)] [d7] = .nx [.im (.scr ns), .im (.mref 0), .im (.int (w : Nat)), .im u, .im x, .im (.int (kd : Int)), q6, .im hd, .im (.str zr), .im (oD (faultF (w : Nat) 3 x)), .im (toldD (faultF (w : Nat) 3 x) x)] [d7] := fun f hf => by
    rw [hf]
    cases f with
    | none =>
      have t1 : ixD [d7] (toldD none x) (.int 1) = some x := atI1 _ _ _
      simp only [ex, exs, ev, evs, evO, evI, fin, Out.bind, Out.bindL, OutL.bind, OutL.bindL, Out.fl, OutL.fl, Fl.seq, Out.get, bindT, bindTs, callO_L, Ou.out_ok, Ou.out_exc, List.getElem?_cons_zero, List.getElem?_cons_succ, List.set_cons_zero, List.set_cons_succ, List.length_cons, List.length_nil, Option.map_some, cmpD, eqS_i, eqS_s, eqS_b, binD, bltD, truth, isTys, isTy, flatD, isNon, isLst, itemsOf, Nat.zero_add, Nat.reduceAdd, Nat.reduceLT, Nat.reduceLeDiff, if_true, if_false, reduceIte, decide_true, decide_false, Bool.not_true, Bool.not_false, runR, and_self, suF, suB, unX, unX1, List.map_cons, List.map_nil, sliD, partD, t1, oD, isNon, es]
    | some y =>
      have t1 : ixD [d7] (toldD (some y) x) (.int 1) = some (.str y) := atI1 _ _ _
      simp only [ex, exs, ev, evs, evO, evI, fin, Out.bind, Out.bindL, OutL.bind, OutL.bindL, Out.fl, OutL.fl, Fl.seq, Out.get, bindT, bindTs, callO_L, Ou.out_ok, Ou.out_exc, List.getElem?_cons_zero, List.getElem?_cons_succ, List.set_cons_zero, List.set_cons_succ, List.length_cons, List.length_nil, Option.map_some, cmpD, eqS_i, eqS_s, eqS_b, binD, bltD, truth, isTys, isTy, flatD, isNon, isLst, itemsOf, Nat.zero_add, Nat.reduceAdd, Nat.reduceLT, Nat.reduceLeDiff, if_true, if_false, reduceIte, decide_true, decide_false, Bool.not_true, Bool.not_false, runR, and_self, suF, suB, unX, unX1, List.map_cons, List.map_nil, sliD, partD, t1, oD, isNon, esz]
  exact p9 _ rfl
end
theorem law_ok {i : Nat} (hi : 40 ≤ i) (ns : List Int) : ∃ s, Z.Cl prg (i + 1) ("law", 1, []) [.scr ns] [] = .ok (.bl true) s := by
  obtain ⟨d0, o1, w0⟩ := open_ok (P := prg) (i := i) (by omega) (ns := ns)
  obtain ⟨r1, d1, e1, w1, h1⟩ := draw_nat (P := prg) (i := i) (k := 4) (by omega) (by decide) w0 (by decide) (by decide)
  have e1 : Z.Cl prg i ("_law_draw", 2, []) [.mref 0, .int 4] [d0] = .ok (.int (r1 : Int)) [d1] := e1
  obtain ⟨w, hw⟩ : ∃ w : Nat, w = 1 + r1 := ⟨_, rfl⟩
  have hwi : (1 : Int) + (r1 : Int) = (w : Nat) := by omega
  obtain ⟨ρ', s', L, u, z4, z5, z6, z7, z8, z9, z10, d2, q1, q2, q3⟩ := lp_inv (f := lpB (fnL prg i) (.nm 3) LB) (fun k ρ s' => ∃ (u z4 z5 z6 z7 z8 z9 z10 : Sl) (d2 : D), ρ = [.im (.scr ns), .im (.mref 0), .im (.int (w : Nat)), u, z4, z5, z6, z7, z8, z9, z10] ∧ s' = [d2] ∧ WF (0 + 1 + 3000 * k) d2) (rangeD 0 8) 0 (ρ := [.im (.scr ns), .im (.mref 0), .im (.int (w : Nat)), .un, .un, .un, .un, .un, .un, .un, .un]) (s := [d1]) ⟨.un, .un, .un, .un, .un, .un, .un, .un, d1, rfl, rfl, by simpa using w1⟩ fun k a ρ s' ha ⟨u, z4, z5, z6, z7, z8, z9, z10, d2, q1, q2, q3⟩ => by
    have hk : k < 8 := by have := (List.getElem?_eq_some_iff.mp ha).1; simpa [rangeD] using this
    subst q1 q2
    obtain ⟨a4, a5, a6, a7, a8, a9, a10, d3, t, w3⟩ := turn_ok (i := i) (w := w) (ns := ns) (u := a) (z4 := z4) (z5 := z5) (z6 := z6) (z7 := z7) (z8 := z8) (z9 := z9) (z10 := z10) hi (by omega) q3 (by omega)
    refine ⟨_, [d3], ?_, .im a, a4, a5, a6, a7, a8, a9, a10, d3, rfl, rfl, w3.mono (by omega)⟩
    rw [lpB_eq (ρ' := [.im (.scr ns), .im (.mref 0), .im (.int (w : Nat)), .im a, z4, z5, z6, z7, z8, z9, z10]) rfl, t]
  subst q1 q2
  refine ⟨[d2], ?_⟩
  rw [Cl_eq (d := d_law) (ρ := [.im (.scr ns), .un, .un, .un, .un, .un, .un, .un, .un, .un, .un]) rfl]
  have eb : d_law.body = [.asg (.nm 1) (.call ("_law_open", 1, []) [false] [(.v 0)]), .asg (.nm 2) (.bin .add (.c (.int 1)) (.call ("_law_draw", 2, []) [false, false] [(.v 1), (.c (.int 4))])), .for (.nm 3) (.rng1 (.c (.int 8))) LB, .ret (.c (.bl true))] := rfl
  rw [eb]
  rw [sq_nx (ρ' := [.im (.scr ns), .im (.mref 0), .un, .un, .un, .un, .un, .un, .un, .un, .un]) (s' := [d0]) (by simp only [ex, exs, ev, evs, evO, evI, fin, Out.bind, Out.bindL, OutL.bind, OutL.bindL, Out.fl, OutL.fl, Fl.seq, Out.get, bindT, bindTs, callO_L, Ou.out_ok, Ou.out_exc, List.getElem?_cons_zero, List.getElem?_cons_succ, List.set_cons_zero, List.set_cons_succ, List.length_cons, List.length_nil, Option.map_some, cmpD, eqS_i, eqS_s, eqS_b, binD, bltD, truth, isTys, isTy, flatD, isNon, isLst, itemsOf, Nat.zero_add, Nat.reduceAdd, Nat.reduceLT, Nat.reduceLeDiff, if_true, if_false, reduceIte, decide_true, decide_false, Bool.not_true, Bool.not_false, runR, and_self, suF, suB, unX, unX1, List.map_cons, List.map_nil, sliD, partD, o1])]
  rw [sq_nx (ρ' := [.im (.scr ns), .im (.mref 0), .im (.int (w : Nat)), .un, .un, .un, .un, .un, .un, .un, .un]) (s' := [d1]) (by simp only [ex, exs, ev, evs, evO, evI, fin, Out.bind, Out.bindL, OutL.bind, OutL.bindL, Out.fl, OutL.fl, Fl.seq, Out.get, bindT, bindTs, callO_L, Ou.out_ok, Ou.out_exc, List.getElem?_cons_zero, List.getElem?_cons_succ, List.set_cons_zero, List.set_cons_succ, List.length_cons, List.length_nil, Option.map_some, cmpD, eqS_i, eqS_s, eqS_b, binD, bltD, truth, isTys, isTy, flatD, isNon, isLst, itemsOf, Nat.zero_add, Nat.reduceAdd, Nat.reduceLT, Nat.reduceLeDiff, if_true, if_false, reduceIte, decide_true, decide_false, Bool.not_true, Bool.not_false, runR, and_self, suF, suB, unX, unX1, List.map_cons, List.map_nil, sliD, partD, e1, hwi])]
  have er : evI (fnL prg i) (.rng1 (.c (.int 8))) [.im (.scr ns), .im (.mref 0), .im (.int (w : Nat)), .un, .un, .un, .un, .un, .un, .un, .un] [d1] = .ok (.lst (rangeD 0 8)) [.im (.scr ns), .im (.mref 0), .im (.int (w : Nat)), .un, .un, .un, .un, .un, .un, .un, .un] [d1] := by
    have c1 : (8 : Int) ≤ 100000 ∧ -100000 ≤ (8 : Int) := by decide
    simp only [ex, exs, ev, evs, evO, evI, fin, Out.bind, Out.bindL, OutL.bind, OutL.bindL, Out.fl, OutL.fl, Fl.seq, Out.get, bindT, bindTs, callO_L, Ou.out_ok, Ou.out_exc, List.getElem?_cons_zero, List.getElem?_cons_succ, List.set_cons_zero, List.set_cons_succ, List.length_cons, List.length_nil, Option.map_some, cmpD, eqS_i, eqS_s, eqS_b, binD, bltD, truth, isTys, isTy, flatD, isNon, isLst, itemsOf, Nat.zero_add, Nat.reduceAdd, Nat.reduceLT, Nat.reduceLeDiff, if_true, if_false, reduceIte, decide_true, decide_false, Bool.not_true, Bool.not_false, runR, and_self, suF, suB, unX, unX1, List.map_cons, List.map_nil, sliD, partD, c1]
    rfl
  rw [sq_nx ((ex_for er rfl).trans L)]
  simp only [ex, exs, ev, evs, evO, evI, fin, Out.bind, Out.bindL, OutL.bind, OutL.bindL, Out.fl, OutL.fl, Fl.seq, Out.get, bindT, bindTs, callO_L, Ou.out_ok, Ou.out_exc, List.getElem?_cons_zero, List.getElem?_cons_succ, List.set_cons_zero, List.set_cons_succ, List.length_cons, List.length_nil, Option.map_some, cmpD, eqS_i, eqS_s, eqS_b, binD, bltD, truth, isTys, isTy, flatD, isNon, isLst, itemsOf, Nat.zero_add, Nat.reduceAdd, Nat.reduceLT, Nat.reduceLeDiff, if_true, if_false, reduceIte, decide_true, decide_false, Bool.not_true, Bool.not_false, runR, and_self, suF, suB, unX, unX1, List.map_cons, List.map_nil, sliD, partD]
theorem law_true (ns : List Int) : ∃ s, Z.dfn prg d_law 60 [.scr ns] [] = .ok (.bl true) s := by
  rw [dfn_Cl (P := prg) (d := d_law) (x := "law") (i := 60) (n := 1) (as := [.scr ns]) (bs := [.scr ns]) (s := []) rfl]
  exact law_ok (i := 59) (by decide) ns
end K49


open PySem PySem.W PyProof.Rows
set_option maxHeartbeats 0 in
theorem PySem.Challenge.cw_headsheard_k49_sayings_checked_in_order_holds : PySem.Challenge.rw_headsheard_k49_sayings_checked_in_order.Holds := by
  w_on; o_law; k_head; (case hw => w_witness2)
  k_fill
  refine Z.walk_ofG (l := PySem.Challenge.rw_headsheard_k49_sayings_checked_in_order) (n := 63) (sp := fun w => Z.spL _ (Z.dfn K49.prg K49.d_law 60)) rfl (by decide) rfl (fun w h Y => PySem.W.kIn_of Y) ?F (fun w H a ns hl _ hS => Z.law_spL (fun ns hl => K49.law_true ns) H a ns hl hS)
  case F =>
    intro w mg fa h KX G hmg
    refine' K49.all_mk KX G hmg (a_BadSaying := ?a_BadSaying) (e_BadSaying := ?e_BadSaying) (t_BadSaying := ?t_BadSaying) (i_BadSaying := ?i_BadSaying) (a_HeadError := ?a_HeadError) (e_HeadError := ?e_HeadError) (t_HeadError := ?t_HeadError) (i_HeadError := ?i_HeadError) (a_BadText := ?a_BadText) (e_BadText := ?e_BadText) (t_BadText := ?t_BadText) (i_BadText := ?i_BadText) (u_n := ?u_n) (u_t := ?u_t) (x_BadSaying := ?x_BadSaying) (v_BadSaying := ?v_BadSaying) (s_BadSaying := ?s_BadSaying) (g_BadSaying := ?g_BadSaying) (gg_BadSaying := ?gg_BadSaying) (h_BadSaying := ?h_BadSaying) (k_BadSaying := ?k_BadSaying) (w_BadSaying := ?w_BadSaying) (o_BadSaying := ?o_BadSaying) (n_BadSaying_what := ?n_BadSaying_what) (r_BadSaying_HeadError := ?r_BadSaying_HeadError) (r_BadSaying_BadText := ?r_BadSaying_BadText) (r_BadSaying_BadSaying := ?r_BadSaying_BadSaying) (r_BadSaying_ValueError := ?r_BadSaying_ValueError) (j_BadSaying := ?j_BadSaying) (jt_BadSaying := ?jt_BadSaying) (jl_BadSaying := ?jl_BadSaying) (jc_BadSaying := ?jc_BadSaying) (jk_BadSaying := ?jk_BadSaying) (b_ValueError := ?b_ValueError) (be_ValueError := ?be_ValueError) (r_HeadError_HeadError := ?r_HeadError_HeadError) (r_BadText_BadText := ?r_BadText_BadText) (q_HEADS := ?q_HEADS) (q_MOST_LEVEL := ?q_MOST_LEVEL) (q_MOST_TERMS := ?q_MOST_TERMS) (q_MOST_PARTS := ?q_MOST_PARTS) (q_MOST_FACTOR := ?q_MOST_FACTOR) (q_MOST_NUMBER := ?q_MOST_NUMBER) (q_COMPARED := ?q_COMPARED) (ql_COMPARED := ?ql_COMPARED) (q_JOINED := ?q_JOINED) (ql_JOINED := ?ql_JOINED) (q_ENTRIES := ?q_ENTRIES) (ql_ENTRIES := ?ql_ENTRIES) (qk_ENTRIES := ?qk_ENTRIES) (qs_ENTRIES := ?qs_ENTRIES) (qe_ENTRIES0 := ?qe_ENTRIES0) (qe_ENTRIES1 := ?qe_ENTRIES1) (qe_ENTRIES2 := ?qe_ENTRIES2) (qe_ENTRIES3 := ?qe_ENTRIES3) (qe_ENTRIES4 := ?qe_ENTRIES4) (qe_ENTRIES5 := ?qe_ENTRIES5) (a0 := ?a0) (l0 := ?l0) (c0 := ?c0) (k0 := ?k0) (a1 := ?a1) (l1 := ?l1) (c1 := ?c1) (k1 := ?k1) (d1 := ?d1) (a2 := ?a2) (l2 := ?l2) (c2 := ?c2) (k2 := ?k2) (a3 := ?a3) (l3 := ?l3) (c3 := ?c3) (k3 := ?k3) (a4 := ?a4) (l4 := ?l4) (c4 := ?c4) (k4 := ?k4) (d4 := ?d4) (a5 := ?a5) (l5 := ?l5) (c5 := ?c5) (k5 := ?k5) (a6 := ?a6) (l6 := ?l6) (c6 := ?c6) (k6 := ?k6) (a7 := ?a7) (l7 := ?l7) (c7 := ?c7) (k7 := ?k7) (a8 := ?a8) (l8 := ?l8) (c8 := ?c8) (k8 := ?k8) (a9 := ?a9) (l9 := ?l9) (c9 := ?c9) (k9 := ?k9) (a10 := ?a10) (l10 := ?l10) (c10 := ?c10) (k10 := ?k10) (a11 := ?a11) (l11 := ?l11) (c11 := ?c11) (k11 := ?k11) (a12 := ?a12) (l12 := ?l12) (c12 := ?c12) (k12 := ?k12) (a13 := ?a13) (l13 := ?l13) (c13 := ?c13) (k13 := ?k13) (a14 := ?a14) (l14 := ?l14) (c14 := ?c14) (k14 := ?k14) (a15 := ?a15) (l15 := ?l15) (c15 := ?c15) (k15 := ?k15) (a16 := ?a16) (l16 := ?l16) (c16 := ?c16) (k16 := ?k16) (a17 := ?a17) (l17 := ?l17) (c17 := ?c17) (k17 := ?k17) (a18 := ?a18) (l18 := ?l18) (c18 := ?c18) (k18 := ?k18) (a19 := ?a19) (l19 := ?l19) (c19 := ?c19) (k19 := ?k19) (a20 := ?a20) (l20 := ?l20) (c20 := ?c20) (k20 := ?k20) (a21 := ?a21) (l21 := ?l21) (c21 := ?c21) (k21 := ?k21) (a22 := ?a22) (l22 := ?l22) (c22 := ?c22) (k22 := ?k22) (a23 := ?a23) (l23 := ?l23) (c23 := ?c23) (k23 := ?k23) (a24 := ?a24) (l24 := ?l24) (c24 := ?c24) (k24 := ?k24) (a25 := ?a25) (l25 := ?l25) (c25 := ?c25) (k25 := ?k25) (z_all := ?z_all) (z_bool := ?z_bool) (z_int := ?z_int) (z_isinstance := ?z_isinstance) (z_len := ?z_len) (z_list := ?z_list) (z_range := ?z_range) (z_repr := ?z_repr) (z_str := ?z_str) (z_tuple := ?z_tuple)
    (case a_BadSaying => k_is)
    (case e_BadSaying => k_is)
    (case t_BadSaying => k_is)
    (case i_BadSaying => k_is)
    (case a_HeadError => k_is)
    (case e_HeadError => k_is)
    (case t_HeadError => k_is)
    (case i_HeadError => k_is)
    (case a_BadText => k_is)
    (case e_BadText => k_is)
    (case t_BadText => k_is)
    (case i_BadText => k_is)
    (case u_n => k_is)
    (case u_t => k_is)
    (case x_BadSaying => k_is)
    (case v_BadSaying => first | rfl | decide +kernel)
    (case s_BadSaying => k_is)
    (case g_BadSaying => k_is)
    (case gg_BadSaying => k_is)
    (case h_BadSaying => k_is)
    (case k_BadSaying => k_is)
    (case w_BadSaying => k_is)
    (case o_BadSaying => k_is)
    (case n_BadSaying_what => k_is)
    (case r_BadSaying_HeadError => k_is)
    (case r_BadSaying_BadText => k_is)
    (case r_BadSaying_BadSaying => k_is)
    (case r_BadSaying_ValueError => k_is)
    (case j_BadSaying => k_is)
    (case jt_BadSaying => k_is)
    (case jl_BadSaying => k_is)
    (case jc_BadSaying => k_is)
    (case jk_BadSaying => k_is)
    (case b_ValueError => k_is)
    (case be_ValueError => k_is)
    (case r_HeadError_HeadError => k_is)
    (case r_BadText_BadText => k_is)
    (case q_HEADS => k_is)
    (case q_MOST_LEVEL => k_is)
    (case q_MOST_TERMS => k_is)
    (case q_MOST_PARTS => k_is)
    (case q_MOST_FACTOR => k_is)
    (case q_MOST_NUMBER => k_is)
    (case q_COMPARED => k_is)
    (case ql_COMPARED => k_is)
    (case q_JOINED => k_is)
    (case ql_JOINED => k_is)
    (case q_ENTRIES => k_is)
    (case ql_ENTRIES => k_is)
    (case qk_ENTRIES => k_keys)
    (case qs_ENTRIES => first | rfl | decide)
    (case qe_ENTRIES0 => k_is)
    (case qe_ENTRIES1 => k_is)
    (case qe_ENTRIES2 => k_is)
    (case qe_ENTRIES3 => k_is)
    (case qe_ENTRIES4 => k_is)
    (case qe_ENTRIES5 => k_is)
    (case a0 => k_is)
    (case l0 => k_is)
    (case c0 => k_is)
    (case k0 => k_is)
    (case a1 => k_is)
    (case l1 => k_is)
    (case c1 => k_is)
    (case k1 => k_is)
    (case d1 => k_is)
    (case a2 => k_is)
    (case l2 => k_is)
    (case c2 => k_is)
    (case k2 => k_is)
    (case a3 => k_is)
    (case l3 => k_is)
    (case c3 => k_is)
    (case k3 => k_is)
    (case a4 => k_is)
    (case l4 => k_is)
    (case c4 => k_is)
    (case k4 => k_is)
    (case d4 => k_is)
    (case a5 => k_is)
    (case l5 => k_is)
    (case c5 => k_is)
    (case k5 => k_is)
    (case a6 => k_is)
    (case l6 => k_is)
    (case c6 => k_is)
    (case k6 => k_is)
    (case a7 => k_is)
    (case l7 => k_is)
    (case c7 => k_is)
    (case k7 => k_is)
    (case a8 => k_is)
    (case l8 => k_is)
    (case c8 => k_is)
    (case k8 => k_is)
    (case a9 => k_is)
    (case l9 => k_is)
    (case c9 => k_is)
    (case k9 => k_is)
    (case a10 => k_is)
    (case l10 => k_is)
    (case c10 => k_is)
    (case k10 => k_is)
    (case a11 => k_is)
    (case l11 => k_is)
    (case c11 => k_is)
    (case k11 => k_is)
    (case a12 => k_is)
    (case l12 => k_is)
    (case c12 => k_is)
    (case k12 => k_is)
    (case a13 => k_is)
    (case l13 => k_is)
    (case c13 => k_is)
    (case k13 => k_is)
    (case a14 => k_is)
    (case l14 => k_is)
    (case c14 => k_is)
    (case k14 => k_is)
    (case a15 => k_is)
    (case l15 => k_is)
    (case c15 => k_is)
    (case k15 => k_is)
    (case a16 => k_is)
    (case l16 => k_is)
    (case c16 => k_is)
    (case k16 => k_is)
    (case a17 => k_is)
    (case l17 => k_is)
    (case c17 => k_is)
    (case k17 => k_is)
    (case a18 => k_is)
    (case l18 => k_is)
    (case c18 => k_is)
    (case k18 => k_is)
    (case a19 => k_is)
    (case l19 => k_is)
    (case c19 => k_is)
    (case k19 => k_is)
    (case a20 => k_is)
    (case l20 => k_is)
    (case c20 => k_is)
    (case k20 => k_is)
    (case a21 => k_is)
    (case l21 => k_is)
    (case c21 => k_is)
    (case k21 => k_is)
    (case a22 => k_is)
    (case l22 => k_is)
    (case c22 => k_is)
    (case k22 => k_is)
    (case a23 => k_is)
    (case l23 => k_is)
    (case c23 => k_is)
    (case k23 => k_is)
    (case a24 => k_is)
    (case l24 => k_is)
    (case c24 => k_is)
    (case k24 => k_is)
    (case a25 => k_is)
    (case l25 => k_is)
    (case c25 => k_is)
    (case k25 => k_is)
    (case z_all => k_is)
    (case z_bool => k_is)
    (case z_int => k_is)
    (case z_isinstance => k_is)
    (case z_len => k_is)
    (case z_list => k_is)
    (case z_range => k_is)
    (case z_repr => k_is)
    (case z_str => k_is)
    (case z_tuple => k_is)

