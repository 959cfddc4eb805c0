"""Makes the new version of a row of cells in the old one's own place."""
