/-
  The shelf of this seat stands in the text Shelf.
-/
import Derived.Test.YtpblalklenebhaaDoorShelf
