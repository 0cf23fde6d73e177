/-
  Both of what writes and what decides. No law is proved here.
-/
import Derived.Test.YtcdehnghggleoaaGreatVt5
import Derived.Test.YtcdehnghggleoaaGreatVt6

