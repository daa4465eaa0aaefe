/- Values beside numbers' bits. -/
import Derived.Test.YtpmlhmdmnbmnnaaGreatDoorVa1
import Derived.Test.YtpmlhmdmnbmnnaaGreatDoorFb
