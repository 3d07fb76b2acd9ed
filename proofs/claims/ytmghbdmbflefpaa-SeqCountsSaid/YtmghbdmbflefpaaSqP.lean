/- What the program's lists of keys have to tell, they tell. -/
import Derived.Test.YtmghbdmbflefpaaSqP3
namespace Go.Proofs.Ytmghbdmbflefpaa
open Go Go.RowKit Go.Deep

theorem seqOk : SeqOk where
  has := fun h hl k => (has_walk h hl k).mono (by rintro e w' ⟨rfl, rfl⟩; exact ⟨rfl, Below.refl _ _⟩)
  without := fun h hl k => (without_walk h hl k).mono (fun _ _ h => h.ret)
  front := fun h hl k => (front_walk h hl k).mono (fun _ _ h => h.ret)
  back := fun h hl => back_walk h hl
  fall := fun h hl n h1 h2 => fall_walk h hl n h1 h2
  apart := fun h hl h2 hb => apart_walk h hl h2 hb
end Go.Proofs.Ytmghbdmbflefpaa
