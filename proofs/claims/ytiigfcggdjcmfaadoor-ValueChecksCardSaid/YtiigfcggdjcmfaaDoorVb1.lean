/- Values beside numbers' bits. -/
import Derived.Test.YtiigfcggdjcmfaaDoorVa1
import Derived.Test.YtiigfcggdjcmfaaDoorFb
