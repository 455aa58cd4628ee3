"""What all stages stand on: integers, fractions, stretches, points and bounds."""
