/-
  Both of what writes and what decides. No law is proved here.
-/
import Derived.Test.YtcdehnghggleoaaVt5
import Derived.Test.YtcdehnghggleoaaVt6

