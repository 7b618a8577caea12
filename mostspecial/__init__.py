"""Generic definitions that are chosen by the most special pattern."""
