"""untaughthelm: leading a plant that nobody knows, in the least number of ticks."""
