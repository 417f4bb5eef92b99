"""Rowveil: a store that shows each user the rows its rules let, and gives nothing else away."""
