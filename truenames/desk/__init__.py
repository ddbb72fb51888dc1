"""A desk that keeps items and promises."""
