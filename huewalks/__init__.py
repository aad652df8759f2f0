"""Huewalks: walks of a web of arrows in hues without long roads of one hue."""
