"""Sums that stay under all exchanges of letters, told exactly."""
