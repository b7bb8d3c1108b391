"""Latebyfew: delivery rounds that hold though some legs take longer."""
