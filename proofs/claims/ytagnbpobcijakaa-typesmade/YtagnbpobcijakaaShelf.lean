/- The shelf of this seat. -/
import Derived.Shelf.Strings.Prefix
import Derived.Test.YtagnbpobcijakaaProg
