/- This seat's shelf: it wants none. -/
import Derived.Shelf.Strings.Prefix
import Derived.Test.YtjajhmojcmfidaaProg
