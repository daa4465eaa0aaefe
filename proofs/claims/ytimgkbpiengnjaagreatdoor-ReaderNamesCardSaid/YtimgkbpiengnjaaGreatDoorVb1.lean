/- Values beside numbers' bits. -/
import Derived.Test.YtimgkbpiengnjaaGreatDoorVa1
import Derived.Test.YtimgkbpiengnjaaGreatDoorFb
