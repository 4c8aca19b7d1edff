"""Rights to price differences between zones: see zonerights.house.answers."""
