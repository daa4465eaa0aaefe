/- Values beside numbers' bits. -/
import Derived.Test.YtlebpaneignfaaaDoorVa1
import Derived.Test.YtlebpaneignfaaaDoorFb
