"""Tables of integers modulo powers of primes, places of whole points, and shares."""
