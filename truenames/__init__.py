"""Letters that change when they pass, and groups with two sums."""
