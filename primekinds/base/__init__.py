"""What all other folders build on: integers and primes."""
