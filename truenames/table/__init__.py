"""Tables that tell what two letters become when they pass."""
