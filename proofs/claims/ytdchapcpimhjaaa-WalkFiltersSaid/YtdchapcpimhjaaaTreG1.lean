/- Package tree: what From and Back hand back, as something to range over, whatever the loop writes. -/
import Derived.RangeFuncBox
import Derived.Test.YtdchapcpimhjaaaTreF6
namespace Go.Proofs.Ytdchapcpimhjaaa
open Go.RowKit Go.Shelf

theorem tre_top_some {ex ex' : Nat → Prop} {t : Nat} {x : Nat × Tm.T} {W : World} (h : Tr ex t (some x) W) (hx : ∀ k, k < W.heap.size → ex' k → ex k) : Tp ex' (.pointer (some ⟨t, 0, none⟩)) x.1 x.2 W := fun W' hb => by
  obtain ⟨p, hp, hT⟩ := h.yes x rfl
  have hp' := (hb.block t (heap_lt hp)).trans hp
  have HT := Lib.hid ((hT.mono hx).below hb)
  have c0 : W'.cell? ⟨t, 0, none⟩ = some (.pointer (some ⟨p, 0, none⟩)) := by rw [Lib.cell_of_heap hp']; rfl
  clear hb h hT hp hp' hx
  go_enter Try.func42, Try.ntmps42
  go_wp2
  go_ret
  exact ⟨_, rfl, HT, Below.refl _ _⟩
/-- what a loop over a tree may write: the trees' objects, and whatever is new -/
def Kx (ex : Nat → Prop) (B : Nat) : Nat → Prop := fun k => ex k ∨ B ≤ k
/-- a tree or nil, and its pairs -/
def Tq (ex : Nat → Prop) (v : Value) (l : List Tm.E) (W : World) : Prop := (v = .pointer none ∧ l = []) ∨ ∃ t r, v = .pointer (some ⟨t, 0, none⟩) ∧ Tr ex t r W ∧ l = Tm.rfl_ r
theorem Tq.below {ex : Nat → Prop} {v : Value} {l : List Tm.E} {W W' : World} (h : Tq ex v l W) (hb : Below W.heap.size W W') : Tq ex v l W' := by
  rcases h with h | ⟨t, r, h1, h2, h3⟩
  · exact .inl h
  · exact .inr ⟨t, r, h1, h2.below hb, h3⟩
theorem Tm.lo_ok (h : Nat) : h = 0 ∨ 1 ≤ Tm.lo_ h := by
  unfold Tm.lo_
  split
  · exact .inl (by assumption)
  · exact .inr (by omega)
theorem Tq.top {ex : Nat → Prop} {v : Value} {l : List Tm.E} {W : World} (h : Tq ex v l W) (hex : ∀ k, W.heap.size ≤ k → ¬ ex k) :
    ∃ ex0 hh tt lo, Tp ex0 v hh tt W ∧ (hh = 0 ∨ 1 ≤ lo) ∧ Tm.Wf hh lo tt ∧ Tm.Asc (Tm.flat hh tt) ∧ Tm.flat hh tt = l ∧ (l = [] ∨ ex0 = Kx ex W.heap.size) := by
  rcases h with ⟨rfl, rfl⟩ | ⟨t, r, rfl, h, rfl⟩
  · exact ⟨ex, 0, .leaf [], 0, tre_top_nil hex, .inl rfl, ⟨Nat.zero_le _, Nat.zero_le _⟩, List.Pairwise.nil, rfl, .inl rfl⟩
  · cases r with
    | none => exact ⟨ex, 0, .leaf [], 0, tre_top h hex, .inl rfl, ⟨Nat.zero_le _, Nat.zero_le _⟩, List.Pairwise.nil, rfl, .inl rfl⟩
    | some x => exact ⟨_, x.1, x.2, Tm.lo_ x.1, tre_top_some (ex' := Kx ex W.heap.size) h (fun k hk e => by rcases e with e | e; exact e; omega), Tm.lo_ok _, h.ok.1, h.ok.2, rfl, .inr rfl⟩
/-- something to range over: it hands out L, whatever of Kx ex B is written meanwhile -/
def Sq (ex : Nat → Prop) (B : Nat) (v : Value) (L : List Tm.E) (w : World) : Prop :=
  ∃ g lb, v = .func (.func g) #[] lb ∧ (∀ args w, (callFunc g args).run Try.prog w = .ok (.enter g args) w) ∧ ∀ m, SeqStopsK Fence.wide (m + 1) Try.prog g lb en8 (Only (Kx ex B)) (fun xs => xs = L) (fun pre => pre <+: L) L.length w
theorem Sq.below {ex : Nat → Prop} {B : Nat} {v : Value} {L : List Tm.E} {w w' : World} (h : Sq ex B v L w) (hb : Below w.heap.size w w') : Sq ex B v L w' := by
  obtain ⟨g, lb, rfl, h1, h2⟩ := h
  exact ⟨g, lb, rfl, h1, fun m l J Jx W hw => h2 m l J Jx W (hb.trans (hw.mono hb.size))⟩
theorem stops_zero {α : Type} {F : Fence} {n : Nat} {P : Program} {g : Nat} {lb : Array Value} {encs : α → Array Value} {Kp Kp' : World → World → Prop} {S Sp : List α → Prop} {w : World} (h : SeqStopsK F n P g lb encs Kp S Sp 0 w) : SeqStopsK F n P g lb encs Kp' S Sp 0 w :=
  fun l J Jx W hb hJ hJx _ h0 => h l J Jx W hb hJ hJx (fun _ _ _ _ hl => absurd hl (Nat.not_lt_zero _)) h0
theorem boxes8 (W : World) (v : Value) (S : ByteArray) (tv ts : TypeId) : ((W.alloc (.cells #[v] tv)).alloc (.cells #[.string S] ts)).cell? ⟨W.heap.size, 0, none⟩ = some v ∧ ((W.alloc (.cells #[v] tv)).alloc (.cells #[.string S] ts)).cell? ⟨W.heap.size + 1, 0, none⟩ = some (.string S) := by
  have h1 := heap_alloc_new (W.alloc (.cells #[v] tv)) (.cells #[.string S] ts)
  rw [World.size_alloc] at h1
  have h0 : ((W.alloc (.cells #[v] tv)).alloc (.cells #[.string S] ts)).heap[W.heap.size]? = some (.cells #[v] tv (0, 0)) := (Below.heap_alloc _ _ _ (by simp)).trans (heap_alloc_new W _)
  exact ⟨by rw [Lib.cell_of_heap h0]; rfl, by rw [Lib.cell_of_heap h1]; rfl⟩
theorem tre_seqFrom {ex : Nat → Prop} {v : Value} {l : List Tm.E} {k : Tm.K} {W : World} (o : Option Addr) (hvo : v = .pointer o) (hv : Tq ex v l W) (hex : ∀ k, W.heap.size ≤ k → ¬ ex k) :
    Calls Try.prog 15 #[v, .string (bstr k)] W fun e w' => ∃ u, e = .returned u ∧ Sq ex W.heap.size u (Tm.from_ l k) w' ∧ Below W.heap.size W w' := by
  obtain ⟨ex0, hh, tt, lo, hp, hlo, hw, ha, rfl, hl⟩ := hv.top hex
  subst hvo
  refine tre_From.mono ?_
  rintro e w' ⟨rfl, rfl⟩
  have hb : Below W.heap.size W ((W.alloc (.cells #[.pointer o] 24)).alloc (.cells #[.string (bstr k)] 9)) := (one_b8 _ _).alloc (by simp) _
  refine ⟨_, rfl, ⟨_, _, rfl, enters_of Try.func41 (by kernel_rfl) rfl, fun m => ?_⟩, hb⟩
  obtain ⟨b0, b1⟩ := boxes8 W (.pointer o) (bstr k) 24 9
  have hs := tre_from1 (m := m) (hp.below hb) hlo hw ha b0 b1 (by simp; omega) (by simp)
  rcases hl with hl | rfl
  · have h0 : Tm.from_ (Tm.flat hh tt) k = [] := by rw [hl]; rfl
    rw [h0] at hs ⊢
    exact stops_zero hs
  · exact hs
end Go.Proofs.Ytdchapcpimhjaaa
