"""Trees drawn by numbers, by fractions, and by popping heaps of arrows."""
